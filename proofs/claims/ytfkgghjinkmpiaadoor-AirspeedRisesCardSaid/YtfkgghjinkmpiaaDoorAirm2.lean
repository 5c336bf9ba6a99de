/-
  Own contracts: layer 30: the law of rising speeds.
-/
import Derived.Test.YtfkgghjinkmpiaaDoorAirl
import Derived.Test.YtfkgghjinkmpiaaDoorRegi
import Derived.WalkKit
import Derived.ProofKit
import Derived.OpenShut
import Derived.WalkLawsBesides
import Derived.WalkSpells
import Derived.Lib.Hide
import Derived.Deep.DeepCutAuto
import Derived.Deep.CutBlock
import Derived.Deep.QuietTactic
import Derived.BigQuiet
import Derived.Handy
import Derived.StillTailTactics
import Derived.IntWalk
import Derived.LoopN
import Derived.Deep.RegionHeld3
namespace Go.Proofs.YtfkgghjinkmpiaaDoor
open Go.ChangeShapes Go.WideShapes Go.ChangeAt Go.RowKit
set_option linter.unusedVariables false
set_option linter.unusedSimpArgs false
def mni (x y : Int) : Int := min x y
def mxi (x y : Int) : Int := max x y
theorem run_mn2 {P : Program} {w : World} (ts : Array TypeId) (t : TypeId) (x y : Int) : (Builtin.min_ ts t #[.int .i64 x, .int .i64 y]).run P w = .ok (.int .i64 (mni x y)) w := by
  have h : ∀ a b : Int, (if b < a then b else a) = min a b := fun a b => by split <;> omega
  simp [Builtin.min_, Builtin.min2, mni, h]
theorem run_mx2 {P : Program} {w : World} (ts : Array TypeId) (t : TypeId) (x y : Int) : (Builtin.max_ ts t #[.int .i64 x, .int .i64 y]).run P w = .ok (.int .i64 (mxi x y)) w := by
  have h : ∀ a b : Int, (if b > a then b else a) = max a b := fun a b => by split <;> omega
  simp [Builtin.max_, Builtin.max2, mxi, h]
theorem mm_le (x y : Int) : mni x y ≤ mxi x y := by unfold mni mxi; omega
set_option maxHeartbeats 16000000 in
set_option maxRecDepth 100000 in
theorem law_rises (v0 v1 m0 m1 a0 d0 a1 d1 : Int) (v0_0 : -9223372036854775808 ≤ v0) (v0_1 : v0 ≤ 9223372036854775807) (v1_0 : -9223372036854775808 ≤ v1) (v1_1 : v1 ≤ 9223372036854775807) (m0_0 : -9223372036854775808 ≤ m0) (m0_1 : m0 ≤ 9223372036854775807) (m1_0 : -9223372036854775808 ≤ m1) (m1_1 : m1 ≤ 9223372036854775807) (a0_0 : -9223372036854775808 ≤ a0) (a0_1 : a0 ≤ 9223372036854775807) (d0_0 : -9223372036854775808 ≤ d0) (d0_1 : d0 ≤ 9223372036854775807) (a1_0 : -9223372036854775808 ≤ a1) (a1_1 : a1 ≤ 9223372036854775807) (d1_0 : -9223372036854775808 ≤ d1) (d1_1 : d1 ≤ 9223372036854775807) (w : World) (ht : Hid (T3 w)) : Calls Tryd.prog 8 #[.agg #[.int .i64 v0, .int .i64 v1], .agg #[.int .i64 m0, .int .i64 m1], .agg #[.int .i64 a0, .int .i64 d0, .int .i64 a1, .int .i64 d1]] w fun e w' => e = .returned (.bool true) ∧ Kept w w' := by
  have ht3 := fun W (k : Kept w W) => Lib.hid (t3_kept ht.out k)
  have HAK := Lib.hid (fun W (k : Kept w W) => awake_w W (ht3 W k))
  clear ht3
  obtain ⟨A, qA⟩ : ∃ x, mni v0 v1 = x := ⟨_, rfl⟩
  obtain ⟨B, qB⟩ : ∃ x, mxi v0 v1 = x := ⟨_, rfl⟩
  obtain ⟨M, qM⟩ : ∃ x, mni m0 m1 = x := ⟨_, rfl⟩
  obtain ⟨N, qN⟩ : ∃ x, mxi m0 m1 = x := ⟨_, rfl⟩
  obtain ⟨la, qla⟩ : ∃ x, mni a0 a1 = x := ⟨_, rfl⟩
  obtain ⟨ha, qha⟩ : ∃ x, mxi a0 a1 = x := ⟨_, rfl⟩
  obtain ⟨ld, qld⟩ : ∃ x, mni d0 d1 = x := ⟨_, rfl⟩
  obtain ⟨hd, qhd⟩ : ∃ x, mxi d0 d1 = x := ⟨_, rfl⟩
  have oA : A ≤ B := by rw [← qA, ← qB]; exact mm_le _ _
  have oM : M ≤ N := by rw [← qM, ← qN]; exact mm_le _ _
  have oa : la ≤ ha := by rw [← qla, ← qha]; exact mm_le _ _
  have od : ld ≤ hd := by rw [← qld, ← qhd]; exact mm_le _ _
  have b0 : ∀ (ts : Array TypeId) (ty : TypeId) (w : World), (Builtin.min_ ts ty #[.int .i64 v0, .int .i64 v1]).run Tryd.prog w = .ok (.int .i64 A) w := fun ts ty w => by rw [run_mn2, qA]
  have b1 : ∀ (ts : Array TypeId) (ty : TypeId) (w : World), (Builtin.max_ ts ty #[.int .i64 v0, .int .i64 v1]).run Tryd.prog w = .ok (.int .i64 B) w := fun ts ty w => by rw [run_mx2, qB]
  have b2 : ∀ (ts : Array TypeId) (ty : TypeId) (w : World), (Builtin.min_ ts ty #[.int .i64 m0, .int .i64 m1]).run Tryd.prog w = .ok (.int .i64 M) w := fun ts ty w => by rw [run_mn2, qM]
  have b3 : ∀ (ts : Array TypeId) (ty : TypeId) (w : World), (Builtin.max_ ts ty #[.int .i64 m0, .int .i64 m1]).run Tryd.prog w = .ok (.int .i64 N) w := fun ts ty w => by rw [run_mx2, qN]
  have b4 : ∀ (ts : Array TypeId) (ty : TypeId) (w : World), (Builtin.min_ ts ty #[.int .i64 a0, .int .i64 a1]).run Tryd.prog w = .ok (.int .i64 la) w := fun ts ty w => by rw [run_mn2, qla]
  have b5 : ∀ (ts : Array TypeId) (ty : TypeId) (w : World), (Builtin.max_ ts ty #[.int .i64 a0, .int .i64 a1]).run Tryd.prog w = .ok (.int .i64 ha) w := fun ts ty w => by rw [run_mx2, qha]
  have b6 : ∀ (ts : Array TypeId) (ty : TypeId) (w : World), (Builtin.min_ ts ty #[.int .i64 d0, .int .i64 d1]).run Tryd.prog w = .ok (.int .i64 ld) w := fun ts ty w => by rw [run_mn2, qld]
  have b7 : ∀ (ts : Array TypeId) (ty : TypeId) (w : World), (Builtin.max_ ts ty #[.int .i64 d0, .int .i64 d1]).run Tryd.prog w = .ok (.int .i64 hd) w := fun ts ty w => by rw [run_mx2, qhd]
  clear qA qB qM qN qla qha qld qhd
  have H1 := Lib.hid (fun W (k : Kept w W) => sch_w A M la ld W (Lib.hid (tab_kept ht.out.1 k)))
  have H2 := Lib.hid (fun W (k : Kept w W) => sch_w B N la hd W (Lib.hid (tab_kept ht.out.1 k)))
  go_enter Tryd.func8, Tryd.ntmps8
  go_wp2_with fail
  refine (HAK.out _ (by repeat (first | with_reducible exact Kept.refl _ | with_reducible assumption | with_reducible refine Kept.setCell ?_ (by first | (simp; done) | (simp; omega) | omega) _ | with_reducible refine Kept.alloc ?_ _ | with_reducible refine Kept.drewN ?_ _ | with_reducible refine Kept.drew ?_ | with_reducible refine Kept.trans ?_ (by with_reducible assumption) | with_reducible refine Kept.dr ?_ (by with_reducible assumption)))).mono ?_
  rintro e w1 ⟨rfl, hk1⟩
  refine kuse (b := w.heap.size) hk1 (by first | (simp; done) | (simp; omega) | omega) ?_
  intro ha hb
  have hz1_0 : w.heap.size < w1.heap.size := by have := hk1.size; (try simp at this); omega
  have hn1_0 : ¬ w.heap.size = w1.heap.size := by omega
  have hm1_0 : ¬ w1.heap.size = w.heap.size := by omega
  have hf1_0_0 : w1.cell? ⟨w.heap.size, 0, none⟩ = some (.int .i64 v0) := by first | (rw [ha]; with_reducible assumption) | (simp (maxDischargeDepth := 7) [go_sem, ha]; done) | (rw [ha]; assumption) | (simp (maxDischargeDepth := 7) [go_sem, ha, *]; done)
  have hf1_0_1 : w1.cell? ⟨w.heap.size, 1, none⟩ = some (.int .i64 v1) := by first | (rw [ha]; with_reducible assumption) | (simp (maxDischargeDepth := 7) [go_sem, ha]; done) | (rw [ha]; assumption) | (simp (maxDischargeDepth := 7) [go_sem, ha, *]; done)
  try have hg1_0 : ∀ o, w1.frozen? ⟨w.heap.size, o, none⟩ = false := by intro o; first | (simp (maxDischargeDepth := 7) [go_sem, hb]; done) | (rw [hb]; simp (maxDischargeDepth := 7) [go_sem, *]; done)
  clear ha hb
  refine kuse (b := w.heap.size + 1) hk1 (by first | (simp; done) | (simp; omega) | omega) ?_
  intro ha hb
  have hz1_1 : w.heap.size + 1 < w1.heap.size := by have := hk1.size; (try simp at this); omega
  have hn1_1 : ¬ w.heap.size + 1 = w1.heap.size := by omega
  have hm1_1 : ¬ w1.heap.size = w.heap.size + 1 := by omega
  have hf1_1_0 : w1.cell? ⟨w.heap.size + 1, 0, none⟩ = some (.int .i64 m0) := by first | (rw [ha]; with_reducible assumption) | (simp (maxDischargeDepth := 7) [go_sem, ha]; done) | (rw [ha]; assumption) | (simp (maxDischargeDepth := 7) [go_sem, ha, *]; done)
  have hf1_1_1 : w1.cell? ⟨w.heap.size + 1, 1, none⟩ = some (.int .i64 m1) := by first | (rw [ha]; with_reducible assumption) | (simp (maxDischargeDepth := 7) [go_sem, ha]; done) | (rw [ha]; assumption) | (simp (maxDischargeDepth := 7) [go_sem, ha, *]; done)
  try have hg1_1 : ∀ o, w1.frozen? ⟨w.heap.size + 1, o, none⟩ = false := by intro o; first | (simp (maxDischargeDepth := 7) [go_sem, hb]; done) | (rw [hb]; simp (maxDischargeDepth := 7) [go_sem, *]; done)
  clear ha hb
  refine kuse (b := w.heap.size + 2) hk1 (by first | (simp; done) | (simp; omega) | omega) ?_
  intro ha hb
  have hz1_2 : w.heap.size + 2 < w1.heap.size := by have := hk1.size; (try simp at this); omega
  have hn1_2 : ¬ w.heap.size + 2 = w1.heap.size := by omega
  have hm1_2 : ¬ w1.heap.size = w.heap.size + 2 := by omega
  have hf1_2_0 : w1.cell? ⟨w.heap.size + 2, 0, none⟩ = some (.int .i64 a0) := by first | (rw [ha]; with_reducible assumption) | (simp (maxDischargeDepth := 7) [go_sem, ha]; done) | (rw [ha]; assumption) | (simp (maxDischargeDepth := 7) [go_sem, ha, *]; done)
  have hf1_2_1 : w1.cell? ⟨w.heap.size + 2, 1, none⟩ = some (.int .i64 d0) := by first | (rw [ha]; with_reducible assumption) | (simp (maxDischargeDepth := 7) [go_sem, ha]; done) | (rw [ha]; assumption) | (simp (maxDischargeDepth := 7) [go_sem, ha, *]; done)
  have hf1_2_2 : w1.cell? ⟨w.heap.size + 2, 2, none⟩ = some (.int .i64 a1) := by first | (rw [ha]; with_reducible assumption) | (simp (maxDischargeDepth := 7) [go_sem, ha]; done) | (rw [ha]; assumption) | (simp (maxDischargeDepth := 7) [go_sem, ha, *]; done)
  have hf1_2_3 : w1.cell? ⟨w.heap.size + 2, 3, none⟩ = some (.int .i64 d1) := by first | (rw [ha]; with_reducible assumption) | (simp (maxDischargeDepth := 7) [go_sem, ha]; done) | (rw [ha]; assumption) | (simp (maxDischargeDepth := 7) [go_sem, ha, *]; done)
  try have hg1_2 : ∀ o, w1.frozen? ⟨w.heap.size + 2, o, none⟩ = false := by intro o; first | (simp (maxDischargeDepth := 7) [go_sem, hb]; done) | (rw [hb]; simp (maxDischargeDepth := 7) [go_sem, *]; done)
  clear ha hb
  go_wp2_with fail
  have B0 : OwnB w1 (w.heap.size) [.int .i64 v0, .int .i64 v1] := ⟨hz1_0, hg1_0, hf1_0_0, hf1_0_1, trivial⟩
  have HB0_0 := Lib.hid B0
  clear B0
  have B1 : OwnB w1 (w.heap.size + 1) [.int .i64 m0, .int .i64 m1] := ⟨hz1_1, hg1_1, hf1_1_0, hf1_1_1, trivial⟩
  have HB0_1 := Lib.hid B1
  clear B1
  have B2 : OwnB w1 (w.heap.size + 2) [.int .i64 a0, .int .i64 d0, .int .i64 a1, .int .i64 d1] := ⟨hz1_2, hg1_2, hf1_2_0, hf1_2_1, hf1_2_2, hf1_2_3, trivial⟩
  have HB0_2 := Lib.hid B2
  clear B2
  go_upto_region 3 with (fail)
  go_cut [7, 8] (fun p0 p1 wx => ∃ b0 b1 : Nat, p0 = .pointer (some ⟨b0, 0, none⟩) ∧ p1 = .pointer (some ⟨b1, 0, none⟩) ∧ w.heap.size + 2 < b0 ∧ w.heap.size + 2 < b1 ∧ b1 ≠ b0 ∧ OwnB wx (b0) [.int .i64 la, .int .i64 ld] ∧ OwnB wx (b1) [.int .i64 ha, .int .i64 hd] ∧ OwnB wx (w.heap.size) [.int .i64 v0, .int .i64 v1] ∧ OwnB wx (w.heap.size + 1) [.int .i64 m0, .int .i64 m1] ∧ OwnB wx (w.heap.size + 2) [.int .i64 a0, .int .i64 d0, .int .i64 a1, .int .i64 d1] ∧ Kept w1 wx)
  case first =>
    rename_i J_ K_ hR_ hM_
    refine region_put (by kernel_rfl) (X := Nat × Nat) (fun p => [(0, 19, .pointer (some ⟨w.heap.size + 2, 0, none⟩)), (1, 20, .pointer (some ⟨w.heap.size + 2, 0, none⟩)), (2, 21, .int .i64 a0), (3, 22, .pointer (some ⟨w.heap.size + 2, 2, none⟩)), (4, 23, .pointer (some ⟨w.heap.size + 2, 2, none⟩)), (5, 24, .int .i64 a1), (6, 25, .int .i64 la), (7, 26, .pointer (some ⟨w.heap.size + 2, 0, none⟩)), (8, 27, .pointer (some ⟨w.heap.size + 2, 1, none⟩)), (9, 28, .int .i64 d0), (10, 29, .pointer (some ⟨w.heap.size + 2, 2, none⟩)), (11, 30, .pointer (some ⟨w.heap.size + 2, 3, none⟩)), (12, 31, .int .i64 d1), (13, 32, .int .i64 ld), (14, 33, .agg #[.int .i64 la, .int .i64 ld]), (15, 34, .pointer (some ⟨w.heap.size + 2, 0, none⟩)), (16, 35, .pointer (some ⟨w.heap.size + 2, 0, none⟩)), (17, 36, .int .i64 a0), (18, 37, .pointer (some ⟨w.heap.size + 2, 2, none⟩)), (19, 38, .pointer (some ⟨w.heap.size + 2, 2, none⟩)), (20, 39, .int .i64 a1), (21, 40, .int .i64 ha), (22, 41, .pointer (some ⟨w.heap.size + 2, 0, none⟩)), (23, 42, .pointer (some ⟨w.heap.size + 2, 1, none⟩)), (24, 43, .int .i64 d0), (25, 44, .pointer (some ⟨w.heap.size + 2, 2, none⟩)), (26, 45, .pointer (some ⟨w.heap.size + 2, 3, none⟩)), (27, 46, .int .i64 d1), (28, 47, .int .i64 hd), (29, 48, .agg #[.int .i64 ha, .int .i64 hd]), (30, 7, .pointer (some ⟨p.1, 0, none⟩)), (31, 8, .pointer (some ⟨p.2, 0, none⟩))]) (fun p l x => l.size = 34 ∧ Kept w1 x ∧ (l.getD 30 false = true → w1.heap.size ≤ p.1 ∧ (l.getD 32 false = true → OwnB x p.1 [.int .i64 la, .int .i64 ld]) ∧ (l.getD 32 false = false → OwnB x p.1 [.int .i64 0, .int .i64 0])) ∧ (l.getD 31 false = true → w1.heap.size ≤ p.2 ∧ (l.getD 33 false = true → OwnB x p.2 [.int .i64 ha, .int .i64 hd]) ∧ (l.getD 33 false = false → OwnB x p.2 [.int .i64 0, .int .i64 0])) ∧ (l.getD 30 false = true → l.getD 31 false = true → p.1 ≠ p.2) ∧ (l.getD 32 false = true → l.getD 30 false = true) ∧ (l.getD 33 false = true → l.getD 31 false = true)) (0, 0) ?_ ?_ ?_
    · exact ⟨by simp, (Kept.refl _).drew, (fun h => by simp at h), (fun h => by simp at h), (fun h => by simp at h), (fun h => by simp at h), (fun h => by simp at h)⟩
    · rintro ⟨b0, b1⟩ l x i hi ⟨hl, hk, h30, h31, e30_31, d30, d31⟩
      have hlt : i < 34 := (ready_lt hi).1
      have hnn : l.getD i false = false := (ready_not hi).resolve_right (by omega)
      obtain ⟨V, hV0⟩ : ∃ V : List (Nat × Nat × Value), V = (fun p => [(0, 19, .pointer (some ⟨w.heap.size + 2, 0, none⟩)), (1, 20, .pointer (some ⟨w.heap.size + 2, 0, none⟩)), (2, 21, .int .i64 a0), (3, 22, .pointer (some ⟨w.heap.size + 2, 2, none⟩)), (4, 23, .pointer (some ⟨w.heap.size + 2, 2, none⟩)), (5, 24, .int .i64 a1), (6, 25, .int .i64 la), (7, 26, .pointer (some ⟨w.heap.size + 2, 0, none⟩)), (8, 27, .pointer (some ⟨w.heap.size + 2, 1, none⟩)), (9, 28, .int .i64 d0), (10, 29, .pointer (some ⟨w.heap.size + 2, 2, none⟩)), (11, 30, .pointer (some ⟨w.heap.size + 2, 3, none⟩)), (12, 31, .int .i64 d1), (13, 32, .int .i64 ld), (14, 33, .agg #[.int .i64 la, .int .i64 ld]), (15, 34, .pointer (some ⟨w.heap.size + 2, 0, none⟩)), (16, 35, .pointer (some ⟨w.heap.size + 2, 0, none⟩)), (17, 36, .int .i64 a0), (18, 37, .pointer (some ⟨w.heap.size + 2, 2, none⟩)), (19, 38, .pointer (some ⟨w.heap.size + 2, 2, none⟩)), (20, 39, .int .i64 a1), (21, 40, .int .i64 ha), (22, 41, .pointer (some ⟨w.heap.size + 2, 0, none⟩)), (23, 42, .pointer (some ⟨w.heap.size + 2, 1, none⟩)), (24, 43, .int .i64 d0), (25, 44, .pointer (some ⟨w.heap.size + 2, 2, none⟩)), (26, 45, .pointer (some ⟨w.heap.size + 2, 3, none⟩)), (27, 46, .int .i64 d1), (28, 47, .int .i64 hd), (29, 48, .agg #[.int .i64 ha, .int .i64 hd]), (30, 7, .pointer (some ⟨p.1, 0, none⟩)), (31, 8, .pointer (some ⟨p.2, 0, none⟩))]) (b0, b1) := ⟨_, rfl⟩
      have hV : V = [(0, 19, .pointer (some ⟨w.heap.size + 2, 0, none⟩)), (1, 20, .pointer (some ⟨w.heap.size + 2, 0, none⟩)), (2, 21, .int .i64 a0), (3, 22, .pointer (some ⟨w.heap.size + 2, 2, none⟩)), (4, 23, .pointer (some ⟨w.heap.size + 2, 2, none⟩)), (5, 24, .int .i64 a1), (6, 25, .int .i64 la), (7, 26, .pointer (some ⟨w.heap.size + 2, 0, none⟩)), (8, 27, .pointer (some ⟨w.heap.size + 2, 1, none⟩)), (9, 28, .int .i64 d0), (10, 29, .pointer (some ⟨w.heap.size + 2, 2, none⟩)), (11, 30, .pointer (some ⟨w.heap.size + 2, 3, none⟩)), (12, 31, .int .i64 d1), (13, 32, .int .i64 ld), (14, 33, .agg #[.int .i64 la, .int .i64 ld]), (15, 34, .pointer (some ⟨w.heap.size + 2, 0, none⟩)), (16, 35, .pointer (some ⟨w.heap.size + 2, 0, none⟩)), (17, 36, .int .i64 a0), (18, 37, .pointer (some ⟨w.heap.size + 2, 2, none⟩)), (19, 38, .pointer (some ⟨w.heap.size + 2, 2, none⟩)), (20, 39, .int .i64 a1), (21, 40, .int .i64 ha), (22, 41, .pointer (some ⟨w.heap.size + 2, 0, none⟩)), (23, 42, .pointer (some ⟨w.heap.size + 2, 1, none⟩)), (24, 43, .int .i64 d0), (25, 44, .pointer (some ⟨w.heap.size + 2, 2, none⟩)), (26, 45, .pointer (some ⟨w.heap.size + 2, 3, none⟩)), (27, 46, .int .i64 d1), (28, 47, .int .i64 hd), (29, 48, .agg #[.int .i64 ha, .int .i64 hd]), (30, 7, .pointer (some ⟨b0, 0, none⟩)), (31, 8, .pointer (some ⟨b1, 0, none⟩))] := hV0
      have N1 : (V.map (·.1)).Nodup := by rw [hV]; show ([0, 1, 2, 3, 4, 5, 6, 7, 8, 9, 10, 11, 12, 13, 14, 15, 16, 17, 18, 19, 20, 21, 22, 23, 24, 25, 26, 27, 28, 29, 30, 31] : List Nat).Nodup; decide
      have N2 : (V.map (·.2.1)).Nodup := by rw [hV]; show ([19, 20, 21, 22, 23, 24, 25, 26, 27, 28, 29, 30, 31, 32, 33, 34, 35, 36, 37, 38, 39, 40, 41, 42, 43, 44, 45, 46, 47, 48, 7, 8] : List Nat).Nodup; decide
      rcases (show i = 0 ∨ i = 1 ∨ i = 2 ∨ i = 3 ∨ i = 4 ∨ i = 5 ∨ i = 6 ∨ i = 7 ∨ i = 8 ∨ i = 9 ∨ i = 10 ∨ i = 11 ∨ i = 12 ∨ i = 13 ∨ i = 14 ∨ i = 15 ∨ i = 16 ∨ i = 17 ∨ i = 18 ∨ i = 19 ∨ i = 20 ∨ i = 21 ∨ i = 22 ∨ i = 23 ∨ i = 24 ∨ i = 25 ∨ i = 26 ∨ i = 27 ∨ i = 28 ∨ i = 29 ∨ i = 30 ∨ i = 31 ∨ i = 32 ∨ i = 33 by omega) with rfl | rfl | rfl | rfl | rfl | rfl | rfl | rfl | rfl | rfl | rfl | rfl | rfl | rfl | rfl | rfl | rfl | rfl | rfl | rfl | rfl | rfl | rfl | rfl | rfl | rfl | rfl | rfl | rfl | rfl | rfl | rfl | rfl | rfl
      · -- 0
        have ev5 : ∀ (A : Act), A.eval (.tmp 5) = (.pointer (some ⟨w.heap.size + 2, 0, none⟩)) → (putL l V A).eval (.tmp 5) = (.pointer (some ⟨w.heap.size + 2, 0, none⟩)) := fun A h => (putL_eval_out (by rw [hV]; show 5 ∉ ([19, 20, 21, 22, 23, 24, 25, 26, 27, 28, 29, 30, 31, 32, 33, 34, 35, 36, 37, 38, 39, 40, 41, 42, 43, 44, 45, 46, 47, 48, 7, 8] : List Nat); decide)).trans h
        have g30 : (l.setIfInBounds 0 true).getD 30 false = l.getD 30 false := getD_set_ne false (by decide)
        have g31 : (l.setIfInBounds 0 true).getD 31 false = l.getD 31 false := getD_set_ne false (by decide)
        have g32 : (l.setIfInBounds 0 true).getD 32 false = l.getD 32 false := getD_set_ne false (by decide)
        have g33 : (l.setIfInBounds 0 true).getD 33 false = l.getD 33 false := getD_set_ne false (by decide)
        change wpOp _ _ _ _ _ (putL l [(0, 19, .pointer (some ⟨w.heap.size + 2, 0, none⟩)), (1, 20, .pointer (some ⟨w.heap.size + 2, 0, none⟩)), (2, 21, .int .i64 a0), (3, 22, .pointer (some ⟨w.heap.size + 2, 2, none⟩)), (4, 23, .pointer (some ⟨w.heap.size + 2, 2, none⟩)), (5, 24, .int .i64 a1), (6, 25, .int .i64 la), (7, 26, .pointer (some ⟨w.heap.size + 2, 0, none⟩)), (8, 27, .pointer (some ⟨w.heap.size + 2, 1, none⟩)), (9, 28, .int .i64 d0), (10, 29, .pointer (some ⟨w.heap.size + 2, 2, none⟩)), (11, 30, .pointer (some ⟨w.heap.size + 2, 3, none⟩)), (12, 31, .int .i64 d1), (13, 32, .int .i64 ld), (14, 33, .agg #[.int .i64 la, .int .i64 ld]), (15, 34, .pointer (some ⟨w.heap.size + 2, 0, none⟩)), (16, 35, .pointer (some ⟨w.heap.size + 2, 0, none⟩)), (17, 36, .int .i64 a0), (18, 37, .pointer (some ⟨w.heap.size + 2, 2, none⟩)), (19, 38, .pointer (some ⟨w.heap.size + 2, 2, none⟩)), (20, 39, .int .i64 a1), (21, 40, .int .i64 ha), (22, 41, .pointer (some ⟨w.heap.size + 2, 0, none⟩)), (23, 42, .pointer (some ⟨w.heap.size + 2, 1, none⟩)), (24, 43, .int .i64 d0), (25, 44, .pointer (some ⟨w.heap.size + 2, 2, none⟩)), (26, 45, .pointer (some ⟨w.heap.size + 2, 3, none⟩)), (27, 46, .int .i64 d1), (28, 47, .int .i64 hd), (29, 48, .agg #[.int .i64 ha, .int .i64 hd]), (30, 7, .pointer (some ⟨b0, 0, none⟩)), (31, 8, .pointer (some ⟨b1, 0, none⟩))] _) _
        rw [← hV]
        refine wpOp_of (by simp only [List.getElem?_toArray, List.getElem?_cons_succ, List.getElem?_cons_zero]; rfl) rfl ?_
        refine wp_value (v := .pointer (some ⟨w.heap.size + 2, 0, none⟩)) (w' := x) ?_ ⟨(b0, b1), ((putL_set (by omega) hnn N1 N2 (by rw [hV]; exact List.mem_of_getElem? (i := 0) rfl)).symm.trans (by rw [hV0])), by simp [hl], hk, ?_, ?_, ?_, ?_, ?_⟩
        · clear hV hV0
          simp only [execOp, Go.resolve, List.map_toArray, List.map_cons, List.map_nil]
          rw [ev5 _ (by first | rfl | decide | (simp; done))]
          first | (simp [go_sem]; done) | (simp [go_sem, *]; done)
        all_goals (simp only [g30, g31, g32, g33]; assumption)
      · -- 1
        have ev19 : ∀ (A : Act), 19 < A.tmps.size → (putL l V A).eval (.tmp 19) = (.pointer (some ⟨w.heap.size + 2, 0, none⟩)) := fun A h => putL_eval (i := 0) (ready_on hi (by kernel_rfl)) N2 (by rw [hV]; exact List.mem_of_getElem? (i := 0) rfl) h
        have g30 : (l.setIfInBounds 1 true).getD 30 false = l.getD 30 false := getD_set_ne false (by decide)
        have g31 : (l.setIfInBounds 1 true).getD 31 false = l.getD 31 false := getD_set_ne false (by decide)
        have g32 : (l.setIfInBounds 1 true).getD 32 false = l.getD 32 false := getD_set_ne false (by decide)
        have g33 : (l.setIfInBounds 1 true).getD 33 false = l.getD 33 false := getD_set_ne false (by decide)
        change wpOp _ _ _ _ _ (putL l [(0, 19, .pointer (some ⟨w.heap.size + 2, 0, none⟩)), (1, 20, .pointer (some ⟨w.heap.size + 2, 0, none⟩)), (2, 21, .int .i64 a0), (3, 22, .pointer (some ⟨w.heap.size + 2, 2, none⟩)), (4, 23, .pointer (some ⟨w.heap.size + 2, 2, none⟩)), (5, 24, .int .i64 a1), (6, 25, .int .i64 la), (7, 26, .pointer (some ⟨w.heap.size + 2, 0, none⟩)), (8, 27, .pointer (some ⟨w.heap.size + 2, 1, none⟩)), (9, 28, .int .i64 d0), (10, 29, .pointer (some ⟨w.heap.size + 2, 2, none⟩)), (11, 30, .pointer (some ⟨w.heap.size + 2, 3, none⟩)), (12, 31, .int .i64 d1), (13, 32, .int .i64 ld), (14, 33, .agg #[.int .i64 la, .int .i64 ld]), (15, 34, .pointer (some ⟨w.heap.size + 2, 0, none⟩)), (16, 35, .pointer (some ⟨w.heap.size + 2, 0, none⟩)), (17, 36, .int .i64 a0), (18, 37, .pointer (some ⟨w.heap.size + 2, 2, none⟩)), (19, 38, .pointer (some ⟨w.heap.size + 2, 2, none⟩)), (20, 39, .int .i64 a1), (21, 40, .int .i64 ha), (22, 41, .pointer (some ⟨w.heap.size + 2, 0, none⟩)), (23, 42, .pointer (some ⟨w.heap.size + 2, 1, none⟩)), (24, 43, .int .i64 d0), (25, 44, .pointer (some ⟨w.heap.size + 2, 2, none⟩)), (26, 45, .pointer (some ⟨w.heap.size + 2, 3, none⟩)), (27, 46, .int .i64 d1), (28, 47, .int .i64 hd), (29, 48, .agg #[.int .i64 ha, .int .i64 hd]), (30, 7, .pointer (some ⟨b0, 0, none⟩)), (31, 8, .pointer (some ⟨b1, 0, none⟩))] _) _
        rw [← hV]
        refine wpOp_of (by simp only [List.getElem?_toArray, List.getElem?_cons_succ, List.getElem?_cons_zero]; rfl) rfl ?_
        refine wp_value (v := .pointer (some ⟨w.heap.size + 2, 0, none⟩)) (w' := x) ?_ ⟨(b0, b1), ((putL_set (by omega) hnn N1 N2 (by rw [hV]; exact List.mem_of_getElem? (i := 1) rfl)).symm.trans (by rw [hV0])), by simp [hl], hk, ?_, ?_, ?_, ?_, ?_⟩
        · clear hV hV0
          simp only [execOp, Go.resolve, List.map_toArray, List.map_cons, List.map_nil]
          rw [ev19 _ (by first | rfl | decide | (simp; done))]
          first | (simp [go_sem]; done) | (simp [go_sem, *]; done)
        all_goals (simp only [g30, g31, g32, g33]; assumption)
      · -- 2
        have ev20 : ∀ (A : Act), 20 < A.tmps.size → (putL l V A).eval (.tmp 20) = (.pointer (some ⟨w.heap.size + 2, 0, none⟩)) := fun A h => putL_eval (i := 1) (ready_on hi (by kernel_rfl)) N2 (by rw [hV]; exact List.mem_of_getElem? (i := 1) rfl) h
        have g30 : (l.setIfInBounds 2 true).getD 30 false = l.getD 30 false := getD_set_ne false (by decide)
        have g31 : (l.setIfInBounds 2 true).getD 31 false = l.getD 31 false := getD_set_ne false (by decide)
        have g32 : (l.setIfInBounds 2 true).getD 32 false = l.getD 32 false := getD_set_ne false (by decide)
        have g33 : (l.setIfInBounds 2 true).getD 33 false = l.getD 33 false := getD_set_ne false (by decide)
        change wpOp _ _ _ _ _ (putL l [(0, 19, .pointer (some ⟨w.heap.size + 2, 0, none⟩)), (1, 20, .pointer (some ⟨w.heap.size + 2, 0, none⟩)), (2, 21, .int .i64 a0), (3, 22, .pointer (some ⟨w.heap.size + 2, 2, none⟩)), (4, 23, .pointer (some ⟨w.heap.size + 2, 2, none⟩)), (5, 24, .int .i64 a1), (6, 25, .int .i64 la), (7, 26, .pointer (some ⟨w.heap.size + 2, 0, none⟩)), (8, 27, .pointer (some ⟨w.heap.size + 2, 1, none⟩)), (9, 28, .int .i64 d0), (10, 29, .pointer (some ⟨w.heap.size + 2, 2, none⟩)), (11, 30, .pointer (some ⟨w.heap.size + 2, 3, none⟩)), (12, 31, .int .i64 d1), (13, 32, .int .i64 ld), (14, 33, .agg #[.int .i64 la, .int .i64 ld]), (15, 34, .pointer (some ⟨w.heap.size + 2, 0, none⟩)), (16, 35, .pointer (some ⟨w.heap.size + 2, 0, none⟩)), (17, 36, .int .i64 a0), (18, 37, .pointer (some ⟨w.heap.size + 2, 2, none⟩)), (19, 38, .pointer (some ⟨w.heap.size + 2, 2, none⟩)), (20, 39, .int .i64 a1), (21, 40, .int .i64 ha), (22, 41, .pointer (some ⟨w.heap.size + 2, 0, none⟩)), (23, 42, .pointer (some ⟨w.heap.size + 2, 1, none⟩)), (24, 43, .int .i64 d0), (25, 44, .pointer (some ⟨w.heap.size + 2, 2, none⟩)), (26, 45, .pointer (some ⟨w.heap.size + 2, 3, none⟩)), (27, 46, .int .i64 d1), (28, 47, .int .i64 hd), (29, 48, .agg #[.int .i64 ha, .int .i64 hd]), (30, 7, .pointer (some ⟨b0, 0, none⟩)), (31, 8, .pointer (some ⟨b1, 0, none⟩))] _) _
        rw [← hV]
        refine wpOp_of (by simp only [List.getElem?_toArray, List.getElem?_cons_succ, List.getElem?_cons_zero]; rfl) rfl ?_
        refine wp_value (v := .int .i64 a0) (w' := x) ?_ ⟨(b0, b1), ((putL_set (by omega) hnn N1 N2 (by rw [hV]; exact List.mem_of_getElem? (i := 2) rfl)).symm.trans (by rw [hV0])), by simp [hl], hk, ?_, ?_, ?_, ?_, ?_⟩
        · clear hV hV0
          simp only [execOp, Go.resolve, List.map_toArray, List.map_cons, List.map_nil]
          rw [ev20 _ (by first | rfl | decide | (simp; done))]
          obtain ⟨oz, og, oc0, oc1, oc2, oc3, _⟩ := OwnB.kept hk HB0_2.out
          first | (simp [go_sem]; done) | (simp [go_sem, *]; done)
        all_goals (simp only [g30, g31, g32, g33]; assumption)
      · -- 3
        have ev5 : ∀ (A : Act), A.eval (.tmp 5) = (.pointer (some ⟨w.heap.size + 2, 0, none⟩)) → (putL l V A).eval (.tmp 5) = (.pointer (some ⟨w.heap.size + 2, 0, none⟩)) := fun A h => (putL_eval_out (by rw [hV]; show 5 ∉ ([19, 20, 21, 22, 23, 24, 25, 26, 27, 28, 29, 30, 31, 32, 33, 34, 35, 36, 37, 38, 39, 40, 41, 42, 43, 44, 45, 46, 47, 48, 7, 8] : List Nat); decide)).trans h
        have g30 : (l.setIfInBounds 3 true).getD 30 false = l.getD 30 false := getD_set_ne false (by decide)
        have g31 : (l.setIfInBounds 3 true).getD 31 false = l.getD 31 false := getD_set_ne false (by decide)
        have g32 : (l.setIfInBounds 3 true).getD 32 false = l.getD 32 false := getD_set_ne false (by decide)
        have g33 : (l.setIfInBounds 3 true).getD 33 false = l.getD 33 false := getD_set_ne false (by decide)
        change wpOp _ _ _ _ _ (putL l [(0, 19, .pointer (some ⟨w.heap.size + 2, 0, none⟩)), (1, 20, .pointer (some ⟨w.heap.size + 2, 0, none⟩)), (2, 21, .int .i64 a0), (3, 22, .pointer (some ⟨w.heap.size + 2, 2, none⟩)), (4, 23, .pointer (some ⟨w.heap.size + 2, 2, none⟩)), (5, 24, .int .i64 a1), (6, 25, .int .i64 la), (7, 26, .pointer (some ⟨w.heap.size + 2, 0, none⟩)), (8, 27, .pointer (some ⟨w.heap.size + 2, 1, none⟩)), (9, 28, .int .i64 d0), (10, 29, .pointer (some ⟨w.heap.size + 2, 2, none⟩)), (11, 30, .pointer (some ⟨w.heap.size + 2, 3, none⟩)), (12, 31, .int .i64 d1), (13, 32, .int .i64 ld), (14, 33, .agg #[.int .i64 la, .int .i64 ld]), (15, 34, .pointer (some ⟨w.heap.size + 2, 0, none⟩)), (16, 35, .pointer (some ⟨w.heap.size + 2, 0, none⟩)), (17, 36, .int .i64 a0), (18, 37, .pointer (some ⟨w.heap.size + 2, 2, none⟩)), (19, 38, .pointer (some ⟨w.heap.size + 2, 2, none⟩)), (20, 39, .int .i64 a1), (21, 40, .int .i64 ha), (22, 41, .pointer (some ⟨w.heap.size + 2, 0, none⟩)), (23, 42, .pointer (some ⟨w.heap.size + 2, 1, none⟩)), (24, 43, .int .i64 d0), (25, 44, .pointer (some ⟨w.heap.size + 2, 2, none⟩)), (26, 45, .pointer (some ⟨w.heap.size + 2, 3, none⟩)), (27, 46, .int .i64 d1), (28, 47, .int .i64 hd), (29, 48, .agg #[.int .i64 ha, .int .i64 hd]), (30, 7, .pointer (some ⟨b0, 0, none⟩)), (31, 8, .pointer (some ⟨b1, 0, none⟩))] _) _
        rw [← hV]
        refine wpOp_of (by simp only [List.getElem?_toArray, List.getElem?_cons_succ, List.getElem?_cons_zero]; rfl) rfl ?_
        refine wp_value (v := .pointer (some ⟨w.heap.size + 2, 2, none⟩)) (w' := x) ?_ ⟨(b0, b1), ((putL_set (by omega) hnn N1 N2 (by rw [hV]; exact List.mem_of_getElem? (i := 3) rfl)).symm.trans (by rw [hV0])), by simp [hl], hk, ?_, ?_, ?_, ?_, ?_⟩
        · clear hV hV0
          simp only [execOp, Go.resolve, List.map_toArray, List.map_cons, List.map_nil]
          rw [ev5 _ (by first | rfl | decide | (simp; done))]
          first | (simp [go_sem]; done) | (simp [go_sem, *]; done)
        all_goals (simp only [g30, g31, g32, g33]; assumption)
      · -- 4
        have ev22 : ∀ (A : Act), 22 < A.tmps.size → (putL l V A).eval (.tmp 22) = (.pointer (some ⟨w.heap.size + 2, 2, none⟩)) := fun A h => putL_eval (i := 3) (ready_on hi (by kernel_rfl)) N2 (by rw [hV]; exact List.mem_of_getElem? (i := 3) rfl) h
        have g30 : (l.setIfInBounds 4 true).getD 30 false = l.getD 30 false := getD_set_ne false (by decide)
        have g31 : (l.setIfInBounds 4 true).getD 31 false = l.getD 31 false := getD_set_ne false (by decide)
        have g32 : (l.setIfInBounds 4 true).getD 32 false = l.getD 32 false := getD_set_ne false (by decide)
        have g33 : (l.setIfInBounds 4 true).getD 33 false = l.getD 33 false := getD_set_ne false (by decide)
        change wpOp _ _ _ _ _ (putL l [(0, 19, .pointer (some ⟨w.heap.size + 2, 0, none⟩)), (1, 20, .pointer (some ⟨w.heap.size + 2, 0, none⟩)), (2, 21, .int .i64 a0), (3, 22, .pointer (some ⟨w.heap.size + 2, 2, none⟩)), (4, 23, .pointer (some ⟨w.heap.size + 2, 2, none⟩)), (5, 24, .int .i64 a1), (6, 25, .int .i64 la), (7, 26, .pointer (some ⟨w.heap.size + 2, 0, none⟩)), (8, 27, .pointer (some ⟨w.heap.size + 2, 1, none⟩)), (9, 28, .int .i64 d0), (10, 29, .pointer (some ⟨w.heap.size + 2, 2, none⟩)), (11, 30, .pointer (some ⟨w.heap.size + 2, 3, none⟩)), (12, 31, .int .i64 d1), (13, 32, .int .i64 ld), (14, 33, .agg #[.int .i64 la, .int .i64 ld]), (15, 34, .pointer (some ⟨w.heap.size + 2, 0, none⟩)), (16, 35, .pointer (some ⟨w.heap.size + 2, 0, none⟩)), (17, 36, .int .i64 a0), (18, 37, .pointer (some ⟨w.heap.size + 2, 2, none⟩)), (19, 38, .pointer (some ⟨w.heap.size + 2, 2, none⟩)), (20, 39, .int .i64 a1), (21, 40, .int .i64 ha), (22, 41, .pointer (some ⟨w.heap.size + 2, 0, none⟩)), (23, 42, .pointer (some ⟨w.heap.size + 2, 1, none⟩)), (24, 43, .int .i64 d0), (25, 44, .pointer (some ⟨w.heap.size + 2, 2, none⟩)), (26, 45, .pointer (some ⟨w.heap.size + 2, 3, none⟩)), (27, 46, .int .i64 d1), (28, 47, .int .i64 hd), (29, 48, .agg #[.int .i64 ha, .int .i64 hd]), (30, 7, .pointer (some ⟨b0, 0, none⟩)), (31, 8, .pointer (some ⟨b1, 0, none⟩))] _) _
        rw [← hV]
        refine wpOp_of (by simp only [List.getElem?_toArray, List.getElem?_cons_succ, List.getElem?_cons_zero]; rfl) rfl ?_
        refine wp_value (v := .pointer (some ⟨w.heap.size + 2, 2, none⟩)) (w' := x) ?_ ⟨(b0, b1), ((putL_set (by omega) hnn N1 N2 (by rw [hV]; exact List.mem_of_getElem? (i := 4) rfl)).symm.trans (by rw [hV0])), by simp [hl], hk, ?_, ?_, ?_, ?_, ?_⟩
        · clear hV hV0
          simp only [execOp, Go.resolve, List.map_toArray, List.map_cons, List.map_nil]
          rw [ev22 _ (by first | rfl | decide | (simp; done))]
          first | (simp [go_sem]; done) | (simp [go_sem, *]; done)
        all_goals (simp only [g30, g31, g32, g33]; assumption)
      · -- 5
        have ev23 : ∀ (A : Act), 23 < A.tmps.size → (putL l V A).eval (.tmp 23) = (.pointer (some ⟨w.heap.size + 2, 2, none⟩)) := fun A h => putL_eval (i := 4) (ready_on hi (by kernel_rfl)) N2 (by rw [hV]; exact List.mem_of_getElem? (i := 4) rfl) h
        have g30 : (l.setIfInBounds 5 true).getD 30 false = l.getD 30 false := getD_set_ne false (by decide)
        have g31 : (l.setIfInBounds 5 true).getD 31 false = l.getD 31 false := getD_set_ne false (by decide)
        have g32 : (l.setIfInBounds 5 true).getD 32 false = l.getD 32 false := getD_set_ne false (by decide)
        have g33 : (l.setIfInBounds 5 true).getD 33 false = l.getD 33 false := getD_set_ne false (by decide)
        change wpOp _ _ _ _ _ (putL l [(0, 19, .pointer (some ⟨w.heap.size + 2, 0, none⟩)), (1, 20, .pointer (some ⟨w.heap.size + 2, 0, none⟩)), (2, 21, .int .i64 a0), (3, 22, .pointer (some ⟨w.heap.size + 2, 2, none⟩)), (4, 23, .pointer (some ⟨w.heap.size + 2, 2, none⟩)), (5, 24, .int .i64 a1), (6, 25, .int .i64 la), (7, 26, .pointer (some ⟨w.heap.size + 2, 0, none⟩)), (8, 27, .pointer (some ⟨w.heap.size + 2, 1, none⟩)), (9, 28, .int .i64 d0), (10, 29, .pointer (some ⟨w.heap.size + 2, 2, none⟩)), (11, 30, .pointer (some ⟨w.heap.size + 2, 3, none⟩)), (12, 31, .int .i64 d1), (13, 32, .int .i64 ld), (14, 33, .agg #[.int .i64 la, .int .i64 ld]), (15, 34, .pointer (some ⟨w.heap.size + 2, 0, none⟩)), (16, 35, .pointer (some ⟨w.heap.size + 2, 0, none⟩)), (17, 36, .int .i64 a0), (18, 37, .pointer (some ⟨w.heap.size + 2, 2, none⟩)), (19, 38, .pointer (some ⟨w.heap.size + 2, 2, none⟩)), (20, 39, .int .i64 a1), (21, 40, .int .i64 ha), (22, 41, .pointer (some ⟨w.heap.size + 2, 0, none⟩)), (23, 42, .pointer (some ⟨w.heap.size + 2, 1, none⟩)), (24, 43, .int .i64 d0), (25, 44, .pointer (some ⟨w.heap.size + 2, 2, none⟩)), (26, 45, .pointer (some ⟨w.heap.size + 2, 3, none⟩)), (27, 46, .int .i64 d1), (28, 47, .int .i64 hd), (29, 48, .agg #[.int .i64 ha, .int .i64 hd]), (30, 7, .pointer (some ⟨b0, 0, none⟩)), (31, 8, .pointer (some ⟨b1, 0, none⟩))] _) _
        rw [← hV]
        refine wpOp_of (by simp only [List.getElem?_toArray, List.getElem?_cons_succ, List.getElem?_cons_zero]; rfl) rfl ?_
        refine wp_value (v := .int .i64 a1) (w' := x) ?_ ⟨(b0, b1), ((putL_set (by omega) hnn N1 N2 (by rw [hV]; exact List.mem_of_getElem? (i := 5) rfl)).symm.trans (by rw [hV0])), by simp [hl], hk, ?_, ?_, ?_, ?_, ?_⟩
        · clear hV hV0
          simp only [execOp, Go.resolve, List.map_toArray, List.map_cons, List.map_nil]
          rw [ev23 _ (by first | rfl | decide | (simp; done))]
          obtain ⟨oz, og, oc0, oc1, oc2, oc3, _⟩ := OwnB.kept hk HB0_2.out
          first | (simp [go_sem]; done) | (simp [go_sem, *]; done)
        all_goals (simp only [g30, g31, g32, g33]; assumption)
      · -- 6
        have ev21 : ∀ (A : Act), 21 < A.tmps.size → (putL l V A).eval (.tmp 21) = (.int .i64 a0) := fun A h => putL_eval (i := 2) (ready_on hi (by kernel_rfl)) N2 (by rw [hV]; exact List.mem_of_getElem? (i := 2) rfl) h
        have ev24 : ∀ (A : Act), 24 < A.tmps.size → (putL l V A).eval (.tmp 24) = (.int .i64 a1) := fun A h => putL_eval (i := 5) (ready_on hi (by kernel_rfl)) N2 (by rw [hV]; exact List.mem_of_getElem? (i := 5) rfl) h
        have g30 : (l.setIfInBounds 6 true).getD 30 false = l.getD 30 false := getD_set_ne false (by decide)
        have g31 : (l.setIfInBounds 6 true).getD 31 false = l.getD 31 false := getD_set_ne false (by decide)
        have g32 : (l.setIfInBounds 6 true).getD 32 false = l.getD 32 false := getD_set_ne false (by decide)
        have g33 : (l.setIfInBounds 6 true).getD 33 false = l.getD 33 false := getD_set_ne false (by decide)
        change wpOp _ _ _ _ _ (putL l [(0, 19, .pointer (some ⟨w.heap.size + 2, 0, none⟩)), (1, 20, .pointer (some ⟨w.heap.size + 2, 0, none⟩)), (2, 21, .int .i64 a0), (3, 22, .pointer (some ⟨w.heap.size + 2, 2, none⟩)), (4, 23, .pointer (some ⟨w.heap.size + 2, 2, none⟩)), (5, 24, .int .i64 a1), (6, 25, .int .i64 la), (7, 26, .pointer (some ⟨w.heap.size + 2, 0, none⟩)), (8, 27, .pointer (some ⟨w.heap.size + 2, 1, none⟩)), (9, 28, .int .i64 d0), (10, 29, .pointer (some ⟨w.heap.size + 2, 2, none⟩)), (11, 30, .pointer (some ⟨w.heap.size + 2, 3, none⟩)), (12, 31, .int .i64 d1), (13, 32, .int .i64 ld), (14, 33, .agg #[.int .i64 la, .int .i64 ld]), (15, 34, .pointer (some ⟨w.heap.size + 2, 0, none⟩)), (16, 35, .pointer (some ⟨w.heap.size + 2, 0, none⟩)), (17, 36, .int .i64 a0), (18, 37, .pointer (some ⟨w.heap.size + 2, 2, none⟩)), (19, 38, .pointer (some ⟨w.heap.size + 2, 2, none⟩)), (20, 39, .int .i64 a1), (21, 40, .int .i64 ha), (22, 41, .pointer (some ⟨w.heap.size + 2, 0, none⟩)), (23, 42, .pointer (some ⟨w.heap.size + 2, 1, none⟩)), (24, 43, .int .i64 d0), (25, 44, .pointer (some ⟨w.heap.size + 2, 2, none⟩)), (26, 45, .pointer (some ⟨w.heap.size + 2, 3, none⟩)), (27, 46, .int .i64 d1), (28, 47, .int .i64 hd), (29, 48, .agg #[.int .i64 ha, .int .i64 hd]), (30, 7, .pointer (some ⟨b0, 0, none⟩)), (31, 8, .pointer (some ⟨b1, 0, none⟩))] _) _
        rw [← hV]
        refine wpOp_of (by simp only [List.getElem?_toArray, List.getElem?_cons_succ, List.getElem?_cons_zero]; rfl) rfl ?_
        refine wp_value (v := .int .i64 la) (w' := x) ?_ ⟨(b0, b1), ((putL_set (by omega) hnn N1 N2 (by rw [hV]; exact List.mem_of_getElem? (i := 6) rfl)).symm.trans (by rw [hV0])), by simp [hl], hk, ?_, ?_, ?_, ?_, ?_⟩
        · clear hV hV0
          simp only [execOp, Go.resolve, List.map_toArray, List.map_cons, List.map_nil]
          rw [ev21 _ (by first | rfl | decide | (simp; done))]
          rw [ev24 _ (by first | rfl | decide | (simp; done))]
          first | (simp [go_sem]; done) | (simp [go_sem, *]; done)
        all_goals (simp only [g30, g31, g32, g33]; assumption)
      · -- 7
        have ev5 : ∀ (A : Act), A.eval (.tmp 5) = (.pointer (some ⟨w.heap.size + 2, 0, none⟩)) → (putL l V A).eval (.tmp 5) = (.pointer (some ⟨w.heap.size + 2, 0, none⟩)) := fun A h => (putL_eval_out (by rw [hV]; show 5 ∉ ([19, 20, 21, 22, 23, 24, 25, 26, 27, 28, 29, 30, 31, 32, 33, 34, 35, 36, 37, 38, 39, 40, 41, 42, 43, 44, 45, 46, 47, 48, 7, 8] : List Nat); decide)).trans h
        have g30 : (l.setIfInBounds 7 true).getD 30 false = l.getD 30 false := getD_set_ne false (by decide)
        have g31 : (l.setIfInBounds 7 true).getD 31 false = l.getD 31 false := getD_set_ne false (by decide)
        have g32 : (l.setIfInBounds 7 true).getD 32 false = l.getD 32 false := getD_set_ne false (by decide)
        have g33 : (l.setIfInBounds 7 true).getD 33 false = l.getD 33 false := getD_set_ne false (by decide)
        change wpOp _ _ _ _ _ (putL l [(0, 19, .pointer (some ⟨w.heap.size + 2, 0, none⟩)), (1, 20, .pointer (some ⟨w.heap.size + 2, 0, none⟩)), (2, 21, .int .i64 a0), (3, 22, .pointer (some ⟨w.heap.size + 2, 2, none⟩)), (4, 23, .pointer (some ⟨w.heap.size + 2, 2, none⟩)), (5, 24, .int .i64 a1), (6, 25, .int .i64 la), (7, 26, .pointer (some ⟨w.heap.size + 2, 0, none⟩)), (8, 27, .pointer (some ⟨w.heap.size + 2, 1, none⟩)), (9, 28, .int .i64 d0), (10, 29, .pointer (some ⟨w.heap.size + 2, 2, none⟩)), (11, 30, .pointer (some ⟨w.heap.size + 2, 3, none⟩)), (12, 31, .int .i64 d1), (13, 32, .int .i64 ld), (14, 33, .agg #[.int .i64 la, .int .i64 ld]), (15, 34, .pointer (some ⟨w.heap.size + 2, 0, none⟩)), (16, 35, .pointer (some ⟨w.heap.size + 2, 0, none⟩)), (17, 36, .int .i64 a0), (18, 37, .pointer (some ⟨w.heap.size + 2, 2, none⟩)), (19, 38, .pointer (some ⟨w.heap.size + 2, 2, none⟩)), (20, 39, .int .i64 a1), (21, 40, .int .i64 ha), (22, 41, .pointer (some ⟨w.heap.size + 2, 0, none⟩)), (23, 42, .pointer (some ⟨w.heap.size + 2, 1, none⟩)), (24, 43, .int .i64 d0), (25, 44, .pointer (some ⟨w.heap.size + 2, 2, none⟩)), (26, 45, .pointer (some ⟨w.heap.size + 2, 3, none⟩)), (27, 46, .int .i64 d1), (28, 47, .int .i64 hd), (29, 48, .agg #[.int .i64 ha, .int .i64 hd]), (30, 7, .pointer (some ⟨b0, 0, none⟩)), (31, 8, .pointer (some ⟨b1, 0, none⟩))] _) _
        rw [← hV]
        refine wpOp_of (by simp only [List.getElem?_toArray, List.getElem?_cons_succ, List.getElem?_cons_zero]; rfl) rfl ?_
        refine wp_value (v := .pointer (some ⟨w.heap.size + 2, 0, none⟩)) (w' := x) ?_ ⟨(b0, b1), ((putL_set (by omega) hnn N1 N2 (by rw [hV]; exact List.mem_of_getElem? (i := 7) rfl)).symm.trans (by rw [hV0])), by simp [hl], hk, ?_, ?_, ?_, ?_, ?_⟩
        · clear hV hV0
          simp only [execOp, Go.resolve, List.map_toArray, List.map_cons, List.map_nil]
          rw [ev5 _ (by first | rfl | decide | (simp; done))]
          first | (simp [go_sem]; done) | (simp [go_sem, *]; done)
        all_goals (simp only [g30, g31, g32, g33]; assumption)
      · -- 8
        have ev26 : ∀ (A : Act), 26 < A.tmps.size → (putL l V A).eval (.tmp 26) = (.pointer (some ⟨w.heap.size + 2, 0, none⟩)) := fun A h => putL_eval (i := 7) (ready_on hi (by kernel_rfl)) N2 (by rw [hV]; exact List.mem_of_getElem? (i := 7) rfl) h
        have g30 : (l.setIfInBounds 8 true).getD 30 false = l.getD 30 false := getD_set_ne false (by decide)
        have g31 : (l.setIfInBounds 8 true).getD 31 false = l.getD 31 false := getD_set_ne false (by decide)
        have g32 : (l.setIfInBounds 8 true).getD 32 false = l.getD 32 false := getD_set_ne false (by decide)
        have g33 : (l.setIfInBounds 8 true).getD 33 false = l.getD 33 false := getD_set_ne false (by decide)
        change wpOp _ _ _ _ _ (putL l [(0, 19, .pointer (some ⟨w.heap.size + 2, 0, none⟩)), (1, 20, .pointer (some ⟨w.heap.size + 2, 0, none⟩)), (2, 21, .int .i64 a0), (3, 22, .pointer (some ⟨w.heap.size + 2, 2, none⟩)), (4, 23, .pointer (some ⟨w.heap.size + 2, 2, none⟩)), (5, 24, .int .i64 a1), (6, 25, .int .i64 la), (7, 26, .pointer (some ⟨w.heap.size + 2, 0, none⟩)), (8, 27, .pointer (some ⟨w.heap.size + 2, 1, none⟩)), (9, 28, .int .i64 d0), (10, 29, .pointer (some ⟨w.heap.size + 2, 2, none⟩)), (11, 30, .pointer (some ⟨w.heap.size + 2, 3, none⟩)), (12, 31, .int .i64 d1), (13, 32, .int .i64 ld), (14, 33, .agg #[.int .i64 la, .int .i64 ld]), (15, 34, .pointer (some ⟨w.heap.size + 2, 0, none⟩)), (16, 35, .pointer (some ⟨w.heap.size + 2, 0, none⟩)), (17, 36, .int .i64 a0), (18, 37, .pointer (some ⟨w.heap.size + 2, 2, none⟩)), (19, 38, .pointer (some ⟨w.heap.size + 2, 2, none⟩)), (20, 39, .int .i64 a1), (21, 40, .int .i64 ha), (22, 41, .pointer (some ⟨w.heap.size + 2, 0, none⟩)), (23, 42, .pointer (some ⟨w.heap.size + 2, 1, none⟩)), (24, 43, .int .i64 d0), (25, 44, .pointer (some ⟨w.heap.size + 2, 2, none⟩)), (26, 45, .pointer (some ⟨w.heap.size + 2, 3, none⟩)), (27, 46, .int .i64 d1), (28, 47, .int .i64 hd), (29, 48, .agg #[.int .i64 ha, .int .i64 hd]), (30, 7, .pointer (some ⟨b0, 0, none⟩)), (31, 8, .pointer (some ⟨b1, 0, none⟩))] _) _
        rw [← hV]
        refine wpOp_of (by simp only [List.getElem?_toArray, List.getElem?_cons_succ, List.getElem?_cons_zero]; rfl) rfl ?_
        refine wp_value (v := .pointer (some ⟨w.heap.size + 2, 1, none⟩)) (w' := x) ?_ ⟨(b0, b1), ((putL_set (by omega) hnn N1 N2 (by rw [hV]; exact List.mem_of_getElem? (i := 8) rfl)).symm.trans (by rw [hV0])), by simp [hl], hk, ?_, ?_, ?_, ?_, ?_⟩
        · clear hV hV0
          simp only [execOp, Go.resolve, List.map_toArray, List.map_cons, List.map_nil]
          rw [ev26 _ (by first | rfl | decide | (simp; done))]
          first | (simp [go_sem]; done) | (simp [go_sem, *]; done)
        all_goals (simp only [g30, g31, g32, g33]; assumption)
      · -- 9
        have ev27 : ∀ (A : Act), 27 < A.tmps.size → (putL l V A).eval (.tmp 27) = (.pointer (some ⟨w.heap.size + 2, 1, none⟩)) := fun A h => putL_eval (i := 8) (ready_on hi (by kernel_rfl)) N2 (by rw [hV]; exact List.mem_of_getElem? (i := 8) rfl) h
        have g30 : (l.setIfInBounds 9 true).getD 30 false = l.getD 30 false := getD_set_ne false (by decide)
        have g31 : (l.setIfInBounds 9 true).getD 31 false = l.getD 31 false := getD_set_ne false (by decide)
        have g32 : (l.setIfInBounds 9 true).getD 32 false = l.getD 32 false := getD_set_ne false (by decide)
        have g33 : (l.setIfInBounds 9 true).getD 33 false = l.getD 33 false := getD_set_ne false (by decide)
        change wpOp _ _ _ _ _ (putL l [(0, 19, .pointer (some ⟨w.heap.size + 2, 0, none⟩)), (1, 20, .pointer (some ⟨w.heap.size + 2, 0, none⟩)), (2, 21, .int .i64 a0), (3, 22, .pointer (some ⟨w.heap.size + 2, 2, none⟩)), (4, 23, .pointer (some ⟨w.heap.size + 2, 2, none⟩)), (5, 24, .int .i64 a1), (6, 25, .int .i64 la), (7, 26, .pointer (some ⟨w.heap.size + 2, 0, none⟩)), (8, 27, .pointer (some ⟨w.heap.size + 2, 1, none⟩)), (9, 28, .int .i64 d0), (10, 29, .pointer (some ⟨w.heap.size + 2, 2, none⟩)), (11, 30, .pointer (some ⟨w.heap.size + 2, 3, none⟩)), (12, 31, .int .i64 d1), (13, 32, .int .i64 ld), (14, 33, .agg #[.int .i64 la, .int .i64 ld]), (15, 34, .pointer (some ⟨w.heap.size + 2, 0, none⟩)), (16, 35, .pointer (some ⟨w.heap.size + 2, 0, none⟩)), (17, 36, .int .i64 a0), (18, 37, .pointer (some ⟨w.heap.size + 2, 2, none⟩)), (19, 38, .pointer (some ⟨w.heap.size + 2, 2, none⟩)), (20, 39, .int .i64 a1), (21, 40, .int .i64 ha), (22, 41, .pointer (some ⟨w.heap.size + 2, 0, none⟩)), (23, 42, .pointer (some ⟨w.heap.size + 2, 1, none⟩)), (24, 43, .int .i64 d0), (25, 44, .pointer (some ⟨w.heap.size + 2, 2, none⟩)), (26, 45, .pointer (some ⟨w.heap.size + 2, 3, none⟩)), (27, 46, .int .i64 d1), (28, 47, .int .i64 hd), (29, 48, .agg #[.int .i64 ha, .int .i64 hd]), (30, 7, .pointer (some ⟨b0, 0, none⟩)), (31, 8, .pointer (some ⟨b1, 0, none⟩))] _) _
        rw [← hV]
        refine wpOp_of (by simp only [List.getElem?_toArray, List.getElem?_cons_succ, List.getElem?_cons_zero]; rfl) rfl ?_
        refine wp_value (v := .int .i64 d0) (w' := x) ?_ ⟨(b0, b1), ((putL_set (by omega) hnn N1 N2 (by rw [hV]; exact List.mem_of_getElem? (i := 9) rfl)).symm.trans (by rw [hV0])), by simp [hl], hk, ?_, ?_, ?_, ?_, ?_⟩
        · clear hV hV0
          simp only [execOp, Go.resolve, List.map_toArray, List.map_cons, List.map_nil]
          rw [ev27 _ (by first | rfl | decide | (simp; done))]
          obtain ⟨oz, og, oc0, oc1, oc2, oc3, _⟩ := OwnB.kept hk HB0_2.out
          first | (simp [go_sem]; done) | (simp [go_sem, *]; done)
        all_goals (simp only [g30, g31, g32, g33]; assumption)
      · -- 10
        have ev5 : ∀ (A : Act), A.eval (.tmp 5) = (.pointer (some ⟨w.heap.size + 2, 0, none⟩)) → (putL l V A).eval (.tmp 5) = (.pointer (some ⟨w.heap.size + 2, 0, none⟩)) := fun A h => (putL_eval_out (by rw [hV]; show 5 ∉ ([19, 20, 21, 22, 23, 24, 25, 26, 27, 28, 29, 30, 31, 32, 33, 34, 35, 36, 37, 38, 39, 40, 41, 42, 43, 44, 45, 46, 47, 48, 7, 8] : List Nat); decide)).trans h
        have g30 : (l.setIfInBounds 10 true).getD 30 false = l.getD 30 false := getD_set_ne false (by decide)
        have g31 : (l.setIfInBounds 10 true).getD 31 false = l.getD 31 false := getD_set_ne false (by decide)
        have g32 : (l.setIfInBounds 10 true).getD 32 false = l.getD 32 false := getD_set_ne false (by decide)
        have g33 : (l.setIfInBounds 10 true).getD 33 false = l.getD 33 false := getD_set_ne false (by decide)
        change wpOp _ _ _ _ _ (putL l [(0, 19, .pointer (some ⟨w.heap.size + 2, 0, none⟩)), (1, 20, .pointer (some ⟨w.heap.size + 2, 0, none⟩)), (2, 21, .int .i64 a0), (3, 22, .pointer (some ⟨w.heap.size + 2, 2, none⟩)), (4, 23, .pointer (some ⟨w.heap.size + 2, 2, none⟩)), (5, 24, .int .i64 a1), (6, 25, .int .i64 la), (7, 26, .pointer (some ⟨w.heap.size + 2, 0, none⟩)), (8, 27, .pointer (some ⟨w.heap.size + 2, 1, none⟩)), (9, 28, .int .i64 d0), (10, 29, .pointer (some ⟨w.heap.size + 2, 2, none⟩)), (11, 30, .pointer (some ⟨w.heap.size + 2, 3, none⟩)), (12, 31, .int .i64 d1), (13, 32, .int .i64 ld), (14, 33, .agg #[.int .i64 la, .int .i64 ld]), (15, 34, .pointer (some ⟨w.heap.size + 2, 0, none⟩)), (16, 35, .pointer (some ⟨w.heap.size + 2, 0, none⟩)), (17, 36, .int .i64 a0), (18, 37, .pointer (some ⟨w.heap.size + 2, 2, none⟩)), (19, 38, .pointer (some ⟨w.heap.size + 2, 2, none⟩)), (20, 39, .int .i64 a1), (21, 40, .int .i64 ha), (22, 41, .pointer (some ⟨w.heap.size + 2, 0, none⟩)), (23, 42, .pointer (some ⟨w.heap.size + 2, 1, none⟩)), (24, 43, .int .i64 d0), (25, 44, .pointer (some ⟨w.heap.size + 2, 2, none⟩)), (26, 45, .pointer (some ⟨w.heap.size + 2, 3, none⟩)), (27, 46, .int .i64 d1), (28, 47, .int .i64 hd), (29, 48, .agg #[.int .i64 ha, .int .i64 hd]), (30, 7, .pointer (some ⟨b0, 0, none⟩)), (31, 8, .pointer (some ⟨b1, 0, none⟩))] _) _
        rw [← hV]
        refine wpOp_of (by simp only [List.getElem?_toArray, List.getElem?_cons_succ, List.getElem?_cons_zero]; rfl) rfl ?_
        refine wp_value (v := .pointer (some ⟨w.heap.size + 2, 2, none⟩)) (w' := x) ?_ ⟨(b0, b1), ((putL_set (by omega) hnn N1 N2 (by rw [hV]; exact List.mem_of_getElem? (i := 10) rfl)).symm.trans (by rw [hV0])), by simp [hl], hk, ?_, ?_, ?_, ?_, ?_⟩
        · clear hV hV0
          simp only [execOp, Go.resolve, List.map_toArray, List.map_cons, List.map_nil]
          rw [ev5 _ (by first | rfl | decide | (simp; done))]
          first | (simp [go_sem]; done) | (simp [go_sem, *]; done)
        all_goals (simp only [g30, g31, g32, g33]; assumption)
      · -- 11
        have ev29 : ∀ (A : Act), 29 < A.tmps.size → (putL l V A).eval (.tmp 29) = (.pointer (some ⟨w.heap.size + 2, 2, none⟩)) := fun A h => putL_eval (i := 10) (ready_on hi (by kernel_rfl)) N2 (by rw [hV]; exact List.mem_of_getElem? (i := 10) rfl) h
        have g30 : (l.setIfInBounds 11 true).getD 30 false = l.getD 30 false := getD_set_ne false (by decide)
        have g31 : (l.setIfInBounds 11 true).getD 31 false = l.getD 31 false := getD_set_ne false (by decide)
        have g32 : (l.setIfInBounds 11 true).getD 32 false = l.getD 32 false := getD_set_ne false (by decide)
        have g33 : (l.setIfInBounds 11 true).getD 33 false = l.getD 33 false := getD_set_ne false (by decide)
        change wpOp _ _ _ _ _ (putL l [(0, 19, .pointer (some ⟨w.heap.size + 2, 0, none⟩)), (1, 20, .pointer (some ⟨w.heap.size + 2, 0, none⟩)), (2, 21, .int .i64 a0), (3, 22, .pointer (some ⟨w.heap.size + 2, 2, none⟩)), (4, 23, .pointer (some ⟨w.heap.size + 2, 2, none⟩)), (5, 24, .int .i64 a1), (6, 25, .int .i64 la), (7, 26, .pointer (some ⟨w.heap.size + 2, 0, none⟩)), (8, 27, .pointer (some ⟨w.heap.size + 2, 1, none⟩)), (9, 28, .int .i64 d0), (10, 29, .pointer (some ⟨w.heap.size + 2, 2, none⟩)), (11, 30, .pointer (some ⟨w.heap.size + 2, 3, none⟩)), (12, 31, .int .i64 d1), (13, 32, .int .i64 ld), (14, 33, .agg #[.int .i64 la, .int .i64 ld]), (15, 34, .pointer (some ⟨w.heap.size + 2, 0, none⟩)), (16, 35, .pointer (some ⟨w.heap.size + 2, 0, none⟩)), (17, 36, .int .i64 a0), (18, 37, .pointer (some ⟨w.heap.size + 2, 2, none⟩)), (19, 38, .pointer (some ⟨w.heap.size + 2, 2, none⟩)), (20, 39, .int .i64 a1), (21, 40, .int .i64 ha), (22, 41, .pointer (some ⟨w.heap.size + 2, 0, none⟩)), (23, 42, .pointer (some ⟨w.heap.size + 2, 1, none⟩)), (24, 43, .int .i64 d0), (25, 44, .pointer (some ⟨w.heap.size + 2, 2, none⟩)), (26, 45, .pointer (some ⟨w.heap.size + 2, 3, none⟩)), (27, 46, .int .i64 d1), (28, 47, .int .i64 hd), (29, 48, .agg #[.int .i64 ha, .int .i64 hd]), (30, 7, .pointer (some ⟨b0, 0, none⟩)), (31, 8, .pointer (some ⟨b1, 0, none⟩))] _) _
        rw [← hV]
        refine wpOp_of (by simp only [List.getElem?_toArray, List.getElem?_cons_succ, List.getElem?_cons_zero]; rfl) rfl ?_
        refine wp_value (v := .pointer (some ⟨w.heap.size + 2, 3, none⟩)) (w' := x) ?_ ⟨(b0, b1), ((putL_set (by omega) hnn N1 N2 (by rw [hV]; exact List.mem_of_getElem? (i := 11) rfl)).symm.trans (by rw [hV0])), by simp [hl], hk, ?_, ?_, ?_, ?_, ?_⟩
        · clear hV hV0
          simp only [execOp, Go.resolve, List.map_toArray, List.map_cons, List.map_nil]
          rw [ev29 _ (by first | rfl | decide | (simp; done))]
          first | (simp [go_sem]; done) | (simp [go_sem, *]; done)
        all_goals (simp only [g30, g31, g32, g33]; assumption)
      · -- 12
        have ev30 : ∀ (A : Act), 30 < A.tmps.size → (putL l V A).eval (.tmp 30) = (.pointer (some ⟨w.heap.size + 2, 3, none⟩)) := fun A h => putL_eval (i := 11) (ready_on hi (by kernel_rfl)) N2 (by rw [hV]; exact List.mem_of_getElem? (i := 11) rfl) h
        have g30 : (l.setIfInBounds 12 true).getD 30 false = l.getD 30 false := getD_set_ne false (by decide)
        have g31 : (l.setIfInBounds 12 true).getD 31 false = l.getD 31 false := getD_set_ne false (by decide)
        have g32 : (l.setIfInBounds 12 true).getD 32 false = l.getD 32 false := getD_set_ne false (by decide)
        have g33 : (l.setIfInBounds 12 true).getD 33 false = l.getD 33 false := getD_set_ne false (by decide)
        change wpOp _ _ _ _ _ (putL l [(0, 19, .pointer (some ⟨w.heap.size + 2, 0, none⟩)), (1, 20, .pointer (some ⟨w.heap.size + 2, 0, none⟩)), (2, 21, .int .i64 a0), (3, 22, .pointer (some ⟨w.heap.size + 2, 2, none⟩)), (4, 23, .pointer (some ⟨w.heap.size + 2, 2, none⟩)), (5, 24, .int .i64 a1), (6, 25, .int .i64 la), (7, 26, .pointer (some ⟨w.heap.size + 2, 0, none⟩)), (8, 27, .pointer (some ⟨w.heap.size + 2, 1, none⟩)), (9, 28, .int .i64 d0), (10, 29, .pointer (some ⟨w.heap.size + 2, 2, none⟩)), (11, 30, .pointer (some ⟨w.heap.size + 2, 3, none⟩)), (12, 31, .int .i64 d1), (13, 32, .int .i64 ld), (14, 33, .agg #[.int .i64 la, .int .i64 ld]), (15, 34, .pointer (some ⟨w.heap.size + 2, 0, none⟩)), (16, 35, .pointer (some ⟨w.heap.size + 2, 0, none⟩)), (17, 36, .int .i64 a0), (18, 37, .pointer (some ⟨w.heap.size + 2, 2, none⟩)), (19, 38, .pointer (some ⟨w.heap.size + 2, 2, none⟩)), (20, 39, .int .i64 a1), (21, 40, .int .i64 ha), (22, 41, .pointer (some ⟨w.heap.size + 2, 0, none⟩)), (23, 42, .pointer (some ⟨w.heap.size + 2, 1, none⟩)), (24, 43, .int .i64 d0), (25, 44, .pointer (some ⟨w.heap.size + 2, 2, none⟩)), (26, 45, .pointer (some ⟨w.heap.size + 2, 3, none⟩)), (27, 46, .int .i64 d1), (28, 47, .int .i64 hd), (29, 48, .agg #[.int .i64 ha, .int .i64 hd]), (30, 7, .pointer (some ⟨b0, 0, none⟩)), (31, 8, .pointer (some ⟨b1, 0, none⟩))] _) _
        rw [← hV]
        refine wpOp_of (by simp only [List.getElem?_toArray, List.getElem?_cons_succ, List.getElem?_cons_zero]; rfl) rfl ?_
        refine wp_value (v := .int .i64 d1) (w' := x) ?_ ⟨(b0, b1), ((putL_set (by omega) hnn N1 N2 (by rw [hV]; exact List.mem_of_getElem? (i := 12) rfl)).symm.trans (by rw [hV0])), by simp [hl], hk, ?_, ?_, ?_, ?_, ?_⟩
        · clear hV hV0
          simp only [execOp, Go.resolve, List.map_toArray, List.map_cons, List.map_nil]
          rw [ev30 _ (by first | rfl | decide | (simp; done))]
          obtain ⟨oz, og, oc0, oc1, oc2, oc3, _⟩ := OwnB.kept hk HB0_2.out
          first | (simp [go_sem]; done) | (simp [go_sem, *]; done)
        all_goals (simp only [g30, g31, g32, g33]; assumption)
      · -- 13
        have ev28 : ∀ (A : Act), 28 < A.tmps.size → (putL l V A).eval (.tmp 28) = (.int .i64 d0) := fun A h => putL_eval (i := 9) (ready_on hi (by kernel_rfl)) N2 (by rw [hV]; exact List.mem_of_getElem? (i := 9) rfl) h
        have ev31 : ∀ (A : Act), 31 < A.tmps.size → (putL l V A).eval (.tmp 31) = (.int .i64 d1) := fun A h => putL_eval (i := 12) (ready_on hi (by kernel_rfl)) N2 (by rw [hV]; exact List.mem_of_getElem? (i := 12) rfl) h
        have g30 : (l.setIfInBounds 13 true).getD 30 false = l.getD 30 false := getD_set_ne false (by decide)
        have g31 : (l.setIfInBounds 13 true).getD 31 false = l.getD 31 false := getD_set_ne false (by decide)
        have g32 : (l.setIfInBounds 13 true).getD 32 false = l.getD 32 false := getD_set_ne false (by decide)
        have g33 : (l.setIfInBounds 13 true).getD 33 false = l.getD 33 false := getD_set_ne false (by decide)
        change wpOp _ _ _ _ _ (putL l [(0, 19, .pointer (some ⟨w.heap.size + 2, 0, none⟩)), (1, 20, .pointer (some ⟨w.heap.size + 2, 0, none⟩)), (2, 21, .int .i64 a0), (3, 22, .pointer (some ⟨w.heap.size + 2, 2, none⟩)), (4, 23, .pointer (some ⟨w.heap.size + 2, 2, none⟩)), (5, 24, .int .i64 a1), (6, 25, .int .i64 la), (7, 26, .pointer (some ⟨w.heap.size + 2, 0, none⟩)), (8, 27, .pointer (some ⟨w.heap.size + 2, 1, none⟩)), (9, 28, .int .i64 d0), (10, 29, .pointer (some ⟨w.heap.size + 2, 2, none⟩)), (11, 30, .pointer (some ⟨w.heap.size + 2, 3, none⟩)), (12, 31, .int .i64 d1), (13, 32, .int .i64 ld), (14, 33, .agg #[.int .i64 la, .int .i64 ld]), (15, 34, .pointer (some ⟨w.heap.size + 2, 0, none⟩)), (16, 35, .pointer (some ⟨w.heap.size + 2, 0, none⟩)), (17, 36, .int .i64 a0), (18, 37, .pointer (some ⟨w.heap.size + 2, 2, none⟩)), (19, 38, .pointer (some ⟨w.heap.size + 2, 2, none⟩)), (20, 39, .int .i64 a1), (21, 40, .int .i64 ha), (22, 41, .pointer (some ⟨w.heap.size + 2, 0, none⟩)), (23, 42, .pointer (some ⟨w.heap.size + 2, 1, none⟩)), (24, 43, .int .i64 d0), (25, 44, .pointer (some ⟨w.heap.size + 2, 2, none⟩)), (26, 45, .pointer (some ⟨w.heap.size + 2, 3, none⟩)), (27, 46, .int .i64 d1), (28, 47, .int .i64 hd), (29, 48, .agg #[.int .i64 ha, .int .i64 hd]), (30, 7, .pointer (some ⟨b0, 0, none⟩)), (31, 8, .pointer (some ⟨b1, 0, none⟩))] _) _
        rw [← hV]
        refine wpOp_of (by simp only [List.getElem?_toArray, List.getElem?_cons_succ, List.getElem?_cons_zero]; rfl) rfl ?_
        refine wp_value (v := .int .i64 ld) (w' := x) ?_ ⟨(b0, b1), ((putL_set (by omega) hnn N1 N2 (by rw [hV]; exact List.mem_of_getElem? (i := 13) rfl)).symm.trans (by rw [hV0])), by simp [hl], hk, ?_, ?_, ?_, ?_, ?_⟩
        · clear hV hV0
          simp only [execOp, Go.resolve, List.map_toArray, List.map_cons, List.map_nil]
          rw [ev28 _ (by first | rfl | decide | (simp; done))]
          rw [ev31 _ (by first | rfl | decide | (simp; done))]
          first | (simp [go_sem]; done) | (simp [go_sem, *]; done)
        all_goals (simp only [g30, g31, g32, g33]; assumption)
      · -- 14
        have ev25 : ∀ (A : Act), 25 < A.tmps.size → (putL l V A).eval (.tmp 25) = (.int .i64 la) := fun A h => putL_eval (i := 6) (ready_on hi (by kernel_rfl)) N2 (by rw [hV]; exact List.mem_of_getElem? (i := 6) rfl) h
        have ev32 : ∀ (A : Act), 32 < A.tmps.size → (putL l V A).eval (.tmp 32) = (.int .i64 ld) := fun A h => putL_eval (i := 13) (ready_on hi (by kernel_rfl)) N2 (by rw [hV]; exact List.mem_of_getElem? (i := 13) rfl) h
        have g30 : (l.setIfInBounds 14 true).getD 30 false = l.getD 30 false := getD_set_ne false (by decide)
        have g31 : (l.setIfInBounds 14 true).getD 31 false = l.getD 31 false := getD_set_ne false (by decide)
        have g32 : (l.setIfInBounds 14 true).getD 32 false = l.getD 32 false := getD_set_ne false (by decide)
        have g33 : (l.setIfInBounds 14 true).getD 33 false = l.getD 33 false := getD_set_ne false (by decide)
        change wpOp _ _ _ _ _ (putL l [(0, 19, .pointer (some ⟨w.heap.size + 2, 0, none⟩)), (1, 20, .pointer (some ⟨w.heap.size + 2, 0, none⟩)), (2, 21, .int .i64 a0), (3, 22, .pointer (some ⟨w.heap.size + 2, 2, none⟩)), (4, 23, .pointer (some ⟨w.heap.size + 2, 2, none⟩)), (5, 24, .int .i64 a1), (6, 25, .int .i64 la), (7, 26, .pointer (some ⟨w.heap.size + 2, 0, none⟩)), (8, 27, .pointer (some ⟨w.heap.size + 2, 1, none⟩)), (9, 28, .int .i64 d0), (10, 29, .pointer (some ⟨w.heap.size + 2, 2, none⟩)), (11, 30, .pointer (some ⟨w.heap.size + 2, 3, none⟩)), (12, 31, .int .i64 d1), (13, 32, .int .i64 ld), (14, 33, .agg #[.int .i64 la, .int .i64 ld]), (15, 34, .pointer (some ⟨w.heap.size + 2, 0, none⟩)), (16, 35, .pointer (some ⟨w.heap.size + 2, 0, none⟩)), (17, 36, .int .i64 a0), (18, 37, .pointer (some ⟨w.heap.size + 2, 2, none⟩)), (19, 38, .pointer (some ⟨w.heap.size + 2, 2, none⟩)), (20, 39, .int .i64 a1), (21, 40, .int .i64 ha), (22, 41, .pointer (some ⟨w.heap.size + 2, 0, none⟩)), (23, 42, .pointer (some ⟨w.heap.size + 2, 1, none⟩)), (24, 43, .int .i64 d0), (25, 44, .pointer (some ⟨w.heap.size + 2, 2, none⟩)), (26, 45, .pointer (some ⟨w.heap.size + 2, 3, none⟩)), (27, 46, .int .i64 d1), (28, 47, .int .i64 hd), (29, 48, .agg #[.int .i64 ha, .int .i64 hd]), (30, 7, .pointer (some ⟨b0, 0, none⟩)), (31, 8, .pointer (some ⟨b1, 0, none⟩))] _) _
        rw [← hV]
        refine wpOp_of (by simp only [List.getElem?_toArray, List.getElem?_cons_succ, List.getElem?_cons_zero]; rfl) rfl ?_
        refine wp_value (v := .agg #[.int .i64 la, .int .i64 ld]) (w' := x) ?_ ⟨(b0, b1), ((putL_set (by omega) hnn N1 N2 (by rw [hV]; exact List.mem_of_getElem? (i := 14) rfl)).symm.trans (by rw [hV0])), by simp [hl], hk, ?_, ?_, ?_, ?_, ?_⟩
        · clear hV hV0
          simp only [execOp, Go.resolve, List.map_toArray, List.map_cons, List.map_nil]
          rw [ev25 _ (by first | rfl | decide | (simp; done))]
          rw [ev32 _ (by first | rfl | decide | (simp; done))]
          first | (simp [go_sem]; done) | (simp [go_sem, *]; done)
        all_goals (simp only [g30, g31, g32, g33]; assumption)
      · -- 15
        have ev5 : ∀ (A : Act), A.eval (.tmp 5) = (.pointer (some ⟨w.heap.size + 2, 0, none⟩)) → (putL l V A).eval (.tmp 5) = (.pointer (some ⟨w.heap.size + 2, 0, none⟩)) := fun A h => (putL_eval_out (by rw [hV]; show 5 ∉ ([19, 20, 21, 22, 23, 24, 25, 26, 27, 28, 29, 30, 31, 32, 33, 34, 35, 36, 37, 38, 39, 40, 41, 42, 43, 44, 45, 46, 47, 48, 7, 8] : List Nat); decide)).trans h
        have g30 : (l.setIfInBounds 15 true).getD 30 false = l.getD 30 false := getD_set_ne false (by decide)
        have g31 : (l.setIfInBounds 15 true).getD 31 false = l.getD 31 false := getD_set_ne false (by decide)
        have g32 : (l.setIfInBounds 15 true).getD 32 false = l.getD 32 false := getD_set_ne false (by decide)
        have g33 : (l.setIfInBounds 15 true).getD 33 false = l.getD 33 false := getD_set_ne false (by decide)
        change wpOp _ _ _ _ _ (putL l [(0, 19, .pointer (some ⟨w.heap.size + 2, 0, none⟩)), (1, 20, .pointer (some ⟨w.heap.size + 2, 0, none⟩)), (2, 21, .int .i64 a0), (3, 22, .pointer (some ⟨w.heap.size + 2, 2, none⟩)), (4, 23, .pointer (some ⟨w.heap.size + 2, 2, none⟩)), (5, 24, .int .i64 a1), (6, 25, .int .i64 la), (7, 26, .pointer (some ⟨w.heap.size + 2, 0, none⟩)), (8, 27, .pointer (some ⟨w.heap.size + 2, 1, none⟩)), (9, 28, .int .i64 d0), (10, 29, .pointer (some ⟨w.heap.size + 2, 2, none⟩)), (11, 30, .pointer (some ⟨w.heap.size + 2, 3, none⟩)), (12, 31, .int .i64 d1), (13, 32, .int .i64 ld), (14, 33, .agg #[.int .i64 la, .int .i64 ld]), (15, 34, .pointer (some ⟨w.heap.size + 2, 0, none⟩)), (16, 35, .pointer (some ⟨w.heap.size + 2, 0, none⟩)), (17, 36, .int .i64 a0), (18, 37, .pointer (some ⟨w.heap.size + 2, 2, none⟩)), (19, 38, .pointer (some ⟨w.heap.size + 2, 2, none⟩)), (20, 39, .int .i64 a1), (21, 40, .int .i64 ha), (22, 41, .pointer (some ⟨w.heap.size + 2, 0, none⟩)), (23, 42, .pointer (some ⟨w.heap.size + 2, 1, none⟩)), (24, 43, .int .i64 d0), (25, 44, .pointer (some ⟨w.heap.size + 2, 2, none⟩)), (26, 45, .pointer (some ⟨w.heap.size + 2, 3, none⟩)), (27, 46, .int .i64 d1), (28, 47, .int .i64 hd), (29, 48, .agg #[.int .i64 ha, .int .i64 hd]), (30, 7, .pointer (some ⟨b0, 0, none⟩)), (31, 8, .pointer (some ⟨b1, 0, none⟩))] _) _
        rw [← hV]
        refine wpOp_of (by simp only [List.getElem?_toArray, List.getElem?_cons_succ, List.getElem?_cons_zero]; rfl) rfl ?_
        refine wp_value (v := .pointer (some ⟨w.heap.size + 2, 0, none⟩)) (w' := x) ?_ ⟨(b0, b1), ((putL_set (by omega) hnn N1 N2 (by rw [hV]; exact List.mem_of_getElem? (i := 15) rfl)).symm.trans (by rw [hV0])), by simp [hl], hk, ?_, ?_, ?_, ?_, ?_⟩
        · clear hV hV0
          simp only [execOp, Go.resolve, List.map_toArray, List.map_cons, List.map_nil]
          rw [ev5 _ (by first | rfl | decide | (simp; done))]
          first | (simp [go_sem]; done) | (simp [go_sem, *]; done)
        all_goals (simp only [g30, g31, g32, g33]; assumption)
      · -- 16
        have ev34 : ∀ (A : Act), 34 < A.tmps.size → (putL l V A).eval (.tmp 34) = (.pointer (some ⟨w.heap.size + 2, 0, none⟩)) := fun A h => putL_eval (i := 15) (ready_on hi (by kernel_rfl)) N2 (by rw [hV]; exact List.mem_of_getElem? (i := 15) rfl) h
        have g30 : (l.setIfInBounds 16 true).getD 30 false = l.getD 30 false := getD_set_ne false (by decide)
        have g31 : (l.setIfInBounds 16 true).getD 31 false = l.getD 31 false := getD_set_ne false (by decide)
        have g32 : (l.setIfInBounds 16 true).getD 32 false = l.getD 32 false := getD_set_ne false (by decide)
        have g33 : (l.setIfInBounds 16 true).getD 33 false = l.getD 33 false := getD_set_ne false (by decide)
        change wpOp _ _ _ _ _ (putL l [(0, 19, .pointer (some ⟨w.heap.size + 2, 0, none⟩)), (1, 20, .pointer (some ⟨w.heap.size + 2, 0, none⟩)), (2, 21, .int .i64 a0), (3, 22, .pointer (some ⟨w.heap.size + 2, 2, none⟩)), (4, 23, .pointer (some ⟨w.heap.size + 2, 2, none⟩)), (5, 24, .int .i64 a1), (6, 25, .int .i64 la), (7, 26, .pointer (some ⟨w.heap.size + 2, 0, none⟩)), (8, 27, .pointer (some ⟨w.heap.size + 2, 1, none⟩)), (9, 28, .int .i64 d0), (10, 29, .pointer (some ⟨w.heap.size + 2, 2, none⟩)), (11, 30, .pointer (some ⟨w.heap.size + 2, 3, none⟩)), (12, 31, .int .i64 d1), (13, 32, .int .i64 ld), (14, 33, .agg #[.int .i64 la, .int .i64 ld]), (15, 34, .pointer (some ⟨w.heap.size + 2, 0, none⟩)), (16, 35, .pointer (some ⟨w.heap.size + 2, 0, none⟩)), (17, 36, .int .i64 a0), (18, 37, .pointer (some ⟨w.heap.size + 2, 2, none⟩)), (19, 38, .pointer (some ⟨w.heap.size + 2, 2, none⟩)), (20, 39, .int .i64 a1), (21, 40, .int .i64 ha), (22, 41, .pointer (some ⟨w.heap.size + 2, 0, none⟩)), (23, 42, .pointer (some ⟨w.heap.size + 2, 1, none⟩)), (24, 43, .int .i64 d0), (25, 44, .pointer (some ⟨w.heap.size + 2, 2, none⟩)), (26, 45, .pointer (some ⟨w.heap.size + 2, 3, none⟩)), (27, 46, .int .i64 d1), (28, 47, .int .i64 hd), (29, 48, .agg #[.int .i64 ha, .int .i64 hd]), (30, 7, .pointer (some ⟨b0, 0, none⟩)), (31, 8, .pointer (some ⟨b1, 0, none⟩))] _) _
        rw [← hV]
        refine wpOp_of (by simp only [List.getElem?_toArray, List.getElem?_cons_succ, List.getElem?_cons_zero]; rfl) rfl ?_
        refine wp_value (v := .pointer (some ⟨w.heap.size + 2, 0, none⟩)) (w' := x) ?_ ⟨(b0, b1), ((putL_set (by omega) hnn N1 N2 (by rw [hV]; exact List.mem_of_getElem? (i := 16) rfl)).symm.trans (by rw [hV0])), by simp [hl], hk, ?_, ?_, ?_, ?_, ?_⟩
        · clear hV hV0
          simp only [execOp, Go.resolve, List.map_toArray, List.map_cons, List.map_nil]
          rw [ev34 _ (by first | rfl | decide | (simp; done))]
          first | (simp [go_sem]; done) | (simp [go_sem, *]; done)
        all_goals (simp only [g30, g31, g32, g33]; assumption)
      · -- 17
        have ev35 : ∀ (A : Act), 35 < A.tmps.size → (putL l V A).eval (.tmp 35) = (.pointer (some ⟨w.heap.size + 2, 0, none⟩)) := fun A h => putL_eval (i := 16) (ready_on hi (by kernel_rfl)) N2 (by rw [hV]; exact List.mem_of_getElem? (i := 16) rfl) h
        have g30 : (l.setIfInBounds 17 true).getD 30 false = l.getD 30 false := getD_set_ne false (by decide)
        have g31 : (l.setIfInBounds 17 true).getD 31 false = l.getD 31 false := getD_set_ne false (by decide)
        have g32 : (l.setIfInBounds 17 true).getD 32 false = l.getD 32 false := getD_set_ne false (by decide)
        have g33 : (l.setIfInBounds 17 true).getD 33 false = l.getD 33 false := getD_set_ne false (by decide)
        change wpOp _ _ _ _ _ (putL l [(0, 19, .pointer (some ⟨w.heap.size + 2, 0, none⟩)), (1, 20, .pointer (some ⟨w.heap.size + 2, 0, none⟩)), (2, 21, .int .i64 a0), (3, 22, .pointer (some ⟨w.heap.size + 2, 2, none⟩)), (4, 23, .pointer (some ⟨w.heap.size + 2, 2, none⟩)), (5, 24, .int .i64 a1), (6, 25, .int .i64 la), (7, 26, .pointer (some ⟨w.heap.size + 2, 0, none⟩)), (8, 27, .pointer (some ⟨w.heap.size + 2, 1, none⟩)), (9, 28, .int .i64 d0), (10, 29, .pointer (some ⟨w.heap.size + 2, 2, none⟩)), (11, 30, .pointer (some ⟨w.heap.size + 2, 3, none⟩)), (12, 31, .int .i64 d1), (13, 32, .int .i64 ld), (14, 33, .agg #[.int .i64 la, .int .i64 ld]), (15, 34, .pointer (some ⟨w.heap.size + 2, 0, none⟩)), (16, 35, .pointer (some ⟨w.heap.size + 2, 0, none⟩)), (17, 36, .int .i64 a0), (18, 37, .pointer (some ⟨w.heap.size + 2, 2, none⟩)), (19, 38, .pointer (some ⟨w.heap.size + 2, 2, none⟩)), (20, 39, .int .i64 a1), (21, 40, .int .i64 ha), (22, 41, .pointer (some ⟨w.heap.size + 2, 0, none⟩)), (23, 42, .pointer (some ⟨w.heap.size + 2, 1, none⟩)), (24, 43, .int .i64 d0), (25, 44, .pointer (some ⟨w.heap.size + 2, 2, none⟩)), (26, 45, .pointer (some ⟨w.heap.size + 2, 3, none⟩)), (27, 46, .int .i64 d1), (28, 47, .int .i64 hd), (29, 48, .agg #[.int .i64 ha, .int .i64 hd]), (30, 7, .pointer (some ⟨b0, 0, none⟩)), (31, 8, .pointer (some ⟨b1, 0, none⟩))] _) _
        rw [← hV]
        refine wpOp_of (by simp only [List.getElem?_toArray, List.getElem?_cons_succ, List.getElem?_cons_zero]; rfl) rfl ?_
        refine wp_value (v := .int .i64 a0) (w' := x) ?_ ⟨(b0, b1), ((putL_set (by omega) hnn N1 N2 (by rw [hV]; exact List.mem_of_getElem? (i := 17) rfl)).symm.trans (by rw [hV0])), by simp [hl], hk, ?_, ?_, ?_, ?_, ?_⟩
        · clear hV hV0
          simp only [execOp, Go.resolve, List.map_toArray, List.map_cons, List.map_nil]
          rw [ev35 _ (by first | rfl | decide | (simp; done))]
          obtain ⟨oz, og, oc0, oc1, oc2, oc3, _⟩ := OwnB.kept hk HB0_2.out
          first | (simp [go_sem]; done) | (simp [go_sem, *]; done)
        all_goals (simp only [g30, g31, g32, g33]; assumption)
      · -- 18
        have ev5 : ∀ (A : Act), A.eval (.tmp 5) = (.pointer (some ⟨w.heap.size + 2, 0, none⟩)) → (putL l V A).eval (.tmp 5) = (.pointer (some ⟨w.heap.size + 2, 0, none⟩)) := fun A h => (putL_eval_out (by rw [hV]; show 5 ∉ ([19, 20, 21, 22, 23, 24, 25, 26, 27, 28, 29, 30, 31, 32, 33, 34, 35, 36, 37, 38, 39, 40, 41, 42, 43, 44, 45, 46, 47, 48, 7, 8] : List Nat); decide)).trans h
        have g30 : (l.setIfInBounds 18 true).getD 30 false = l.getD 30 false := getD_set_ne false (by decide)
        have g31 : (l.setIfInBounds 18 true).getD 31 false = l.getD 31 false := getD_set_ne false (by decide)
        have g32 : (l.setIfInBounds 18 true).getD 32 false = l.getD 32 false := getD_set_ne false (by decide)
        have g33 : (l.setIfInBounds 18 true).getD 33 false = l.getD 33 false := getD_set_ne false (by decide)
        change wpOp _ _ _ _ _ (putL l [(0, 19, .pointer (some ⟨w.heap.size + 2, 0, none⟩)), (1, 20, .pointer (some ⟨w.heap.size + 2, 0, none⟩)), (2, 21, .int .i64 a0), (3, 22, .pointer (some ⟨w.heap.size + 2, 2, none⟩)), (4, 23, .pointer (some ⟨w.heap.size + 2, 2, none⟩)), (5, 24, .int .i64 a1), (6, 25, .int .i64 la), (7, 26, .pointer (some ⟨w.heap.size + 2, 0, none⟩)), (8, 27, .pointer (some ⟨w.heap.size + 2, 1, none⟩)), (9, 28, .int .i64 d0), (10, 29, .pointer (some ⟨w.heap.size + 2, 2, none⟩)), (11, 30, .pointer (some ⟨w.heap.size + 2, 3, none⟩)), (12, 31, .int .i64 d1), (13, 32, .int .i64 ld), (14, 33, .agg #[.int .i64 la, .int .i64 ld]), (15, 34, .pointer (some ⟨w.heap.size + 2, 0, none⟩)), (16, 35, .pointer (some ⟨w.heap.size + 2, 0, none⟩)), (17, 36, .int .i64 a0), (18, 37, .pointer (some ⟨w.heap.size + 2, 2, none⟩)), (19, 38, .pointer (some ⟨w.heap.size + 2, 2, none⟩)), (20, 39, .int .i64 a1), (21, 40, .int .i64 ha), (22, 41, .pointer (some ⟨w.heap.size + 2, 0, none⟩)), (23, 42, .pointer (some ⟨w.heap.size + 2, 1, none⟩)), (24, 43, .int .i64 d0), (25, 44, .pointer (some ⟨w.heap.size + 2, 2, none⟩)), (26, 45, .pointer (some ⟨w.heap.size + 2, 3, none⟩)), (27, 46, .int .i64 d1), (28, 47, .int .i64 hd), (29, 48, .agg #[.int .i64 ha, .int .i64 hd]), (30, 7, .pointer (some ⟨b0, 0, none⟩)), (31, 8, .pointer (some ⟨b1, 0, none⟩))] _) _
        rw [← hV]
        refine wpOp_of (by simp only [List.getElem?_toArray, List.getElem?_cons_succ, List.getElem?_cons_zero]; rfl) rfl ?_
        refine wp_value (v := .pointer (some ⟨w.heap.size + 2, 2, none⟩)) (w' := x) ?_ ⟨(b0, b1), ((putL_set (by omega) hnn N1 N2 (by rw [hV]; exact List.mem_of_getElem? (i := 18) rfl)).symm.trans (by rw [hV0])), by simp [hl], hk, ?_, ?_, ?_, ?_, ?_⟩
        · clear hV hV0
          simp only [execOp, Go.resolve, List.map_toArray, List.map_cons, List.map_nil]
          rw [ev5 _ (by first | rfl | decide | (simp; done))]
          first | (simp [go_sem]; done) | (simp [go_sem, *]; done)
        all_goals (simp only [g30, g31, g32, g33]; assumption)
      · -- 19
        have ev37 : ∀ (A : Act), 37 < A.tmps.size → (putL l V A).eval (.tmp 37) = (.pointer (some ⟨w.heap.size + 2, 2, none⟩)) := fun A h => putL_eval (i := 18) (ready_on hi (by kernel_rfl)) N2 (by rw [hV]; exact List.mem_of_getElem? (i := 18) rfl) h
        have g30 : (l.setIfInBounds 19 true).getD 30 false = l.getD 30 false := getD_set_ne false (by decide)
        have g31 : (l.setIfInBounds 19 true).getD 31 false = l.getD 31 false := getD_set_ne false (by decide)
        have g32 : (l.setIfInBounds 19 true).getD 32 false = l.getD 32 false := getD_set_ne false (by decide)
        have g33 : (l.setIfInBounds 19 true).getD 33 false = l.getD 33 false := getD_set_ne false (by decide)
        change wpOp _ _ _ _ _ (putL l [(0, 19, .pointer (some ⟨w.heap.size + 2, 0, none⟩)), (1, 20, .pointer (some ⟨w.heap.size + 2, 0, none⟩)), (2, 21, .int .i64 a0), (3, 22, .pointer (some ⟨w.heap.size + 2, 2, none⟩)), (4, 23, .pointer (some ⟨w.heap.size + 2, 2, none⟩)), (5, 24, .int .i64 a1), (6, 25, .int .i64 la), (7, 26, .pointer (some ⟨w.heap.size + 2, 0, none⟩)), (8, 27, .pointer (some ⟨w.heap.size + 2, 1, none⟩)), (9, 28, .int .i64 d0), (10, 29, .pointer (some ⟨w.heap.size + 2, 2, none⟩)), (11, 30, .pointer (some ⟨w.heap.size + 2, 3, none⟩)), (12, 31, .int .i64 d1), (13, 32, .int .i64 ld), (14, 33, .agg #[.int .i64 la, .int .i64 ld]), (15, 34, .pointer (some ⟨w.heap.size + 2, 0, none⟩)), (16, 35, .pointer (some ⟨w.heap.size + 2, 0, none⟩)), (17, 36, .int .i64 a0), (18, 37, .pointer (some ⟨w.heap.size + 2, 2, none⟩)), (19, 38, .pointer (some ⟨w.heap.size + 2, 2, none⟩)), (20, 39, .int .i64 a1), (21, 40, .int .i64 ha), (22, 41, .pointer (some ⟨w.heap.size + 2, 0, none⟩)), (23, 42, .pointer (some ⟨w.heap.size + 2, 1, none⟩)), (24, 43, .int .i64 d0), (25, 44, .pointer (some ⟨w.heap.size + 2, 2, none⟩)), (26, 45, .pointer (some ⟨w.heap.size + 2, 3, none⟩)), (27, 46, .int .i64 d1), (28, 47, .int .i64 hd), (29, 48, .agg #[.int .i64 ha, .int .i64 hd]), (30, 7, .pointer (some ⟨b0, 0, none⟩)), (31, 8, .pointer (some ⟨b1, 0, none⟩))] _) _
        rw [← hV]
        refine wpOp_of (by simp only [List.getElem?_toArray, List.getElem?_cons_succ, List.getElem?_cons_zero]; rfl) rfl ?_
        refine wp_value (v := .pointer (some ⟨w.heap.size + 2, 2, none⟩)) (w' := x) ?_ ⟨(b0, b1), ((putL_set (by omega) hnn N1 N2 (by rw [hV]; exact List.mem_of_getElem? (i := 19) rfl)).symm.trans (by rw [hV0])), by simp [hl], hk, ?_, ?_, ?_, ?_, ?_⟩
        · clear hV hV0
          simp only [execOp, Go.resolve, List.map_toArray, List.map_cons, List.map_nil]
          rw [ev37 _ (by first | rfl | decide | (simp; done))]
          first | (simp [go_sem]; done) | (simp [go_sem, *]; done)
        all_goals (simp only [g30, g31, g32, g33]; assumption)
      · -- 20
        have ev38 : ∀ (A : Act), 38 < A.tmps.size → (putL l V A).eval (.tmp 38) = (.pointer (some ⟨w.heap.size + 2, 2, none⟩)) := fun A h => putL_eval (i := 19) (ready_on hi (by kernel_rfl)) N2 (by rw [hV]; exact List.mem_of_getElem? (i := 19) rfl) h
        have g30 : (l.setIfInBounds 20 true).getD 30 false = l.getD 30 false := getD_set_ne false (by decide)
        have g31 : (l.setIfInBounds 20 true).getD 31 false = l.getD 31 false := getD_set_ne false (by decide)
        have g32 : (l.setIfInBounds 20 true).getD 32 false = l.getD 32 false := getD_set_ne false (by decide)
        have g33 : (l.setIfInBounds 20 true).getD 33 false = l.getD 33 false := getD_set_ne false (by decide)
        change wpOp _ _ _ _ _ (putL l [(0, 19, .pointer (some ⟨w.heap.size + 2, 0, none⟩)), (1, 20, .pointer (some ⟨w.heap.size + 2, 0, none⟩)), (2, 21, .int .i64 a0), (3, 22, .pointer (some ⟨w.heap.size + 2, 2, none⟩)), (4, 23, .pointer (some ⟨w.heap.size + 2, 2, none⟩)), (5, 24, .int .i64 a1), (6, 25, .int .i64 la), (7, 26, .pointer (some ⟨w.heap.size + 2, 0, none⟩)), (8, 27, .pointer (some ⟨w.heap.size + 2, 1, none⟩)), (9, 28, .int .i64 d0), (10, 29, .pointer (some ⟨w.heap.size + 2, 2, none⟩)), (11, 30, .pointer (some ⟨w.heap.size + 2, 3, none⟩)), (12, 31, .int .i64 d1), (13, 32, .int .i64 ld), (14, 33, .agg #[.int .i64 la, .int .i64 ld]), (15, 34, .pointer (some ⟨w.heap.size + 2, 0, none⟩)), (16, 35, .pointer (some ⟨w.heap.size + 2, 0, none⟩)), (17, 36, .int .i64 a0), (18, 37, .pointer (some ⟨w.heap.size + 2, 2, none⟩)), (19, 38, .pointer (some ⟨w.heap.size + 2, 2, none⟩)), (20, 39, .int .i64 a1), (21, 40, .int .i64 ha), (22, 41, .pointer (some ⟨w.heap.size + 2, 0, none⟩)), (23, 42, .pointer (some ⟨w.heap.size + 2, 1, none⟩)), (24, 43, .int .i64 d0), (25, 44, .pointer (some ⟨w.heap.size + 2, 2, none⟩)), (26, 45, .pointer (some ⟨w.heap.size + 2, 3, none⟩)), (27, 46, .int .i64 d1), (28, 47, .int .i64 hd), (29, 48, .agg #[.int .i64 ha, .int .i64 hd]), (30, 7, .pointer (some ⟨b0, 0, none⟩)), (31, 8, .pointer (some ⟨b1, 0, none⟩))] _) _
        rw [← hV]
        refine wpOp_of (by simp only [List.getElem?_toArray, List.getElem?_cons_succ, List.getElem?_cons_zero]; rfl) rfl ?_
        refine wp_value (v := .int .i64 a1) (w' := x) ?_ ⟨(b0, b1), ((putL_set (by omega) hnn N1 N2 (by rw [hV]; exact List.mem_of_getElem? (i := 20) rfl)).symm.trans (by rw [hV0])), by simp [hl], hk, ?_, ?_, ?_, ?_, ?_⟩
        · clear hV hV0
          simp only [execOp, Go.resolve, List.map_toArray, List.map_cons, List.map_nil]
          rw [ev38 _ (by first | rfl | decide | (simp; done))]
          obtain ⟨oz, og, oc0, oc1, oc2, oc3, _⟩ := OwnB.kept hk HB0_2.out
          first | (simp [go_sem]; done) | (simp [go_sem, *]; done)
        all_goals (simp only [g30, g31, g32, g33]; assumption)
      · -- 21
        have ev36 : ∀ (A : Act), 36 < A.tmps.size → (putL l V A).eval (.tmp 36) = (.int .i64 a0) := fun A h => putL_eval (i := 17) (ready_on hi (by kernel_rfl)) N2 (by rw [hV]; exact List.mem_of_getElem? (i := 17) rfl) h
        have ev39 : ∀ (A : Act), 39 < A.tmps.size → (putL l V A).eval (.tmp 39) = (.int .i64 a1) := fun A h => putL_eval (i := 20) (ready_on hi (by kernel_rfl)) N2 (by rw [hV]; exact List.mem_of_getElem? (i := 20) rfl) h
        have g30 : (l.setIfInBounds 21 true).getD 30 false = l.getD 30 false := getD_set_ne false (by decide)
        have g31 : (l.setIfInBounds 21 true).getD 31 false = l.getD 31 false := getD_set_ne false (by decide)
        have g32 : (l.setIfInBounds 21 true).getD 32 false = l.getD 32 false := getD_set_ne false (by decide)
        have g33 : (l.setIfInBounds 21 true).getD 33 false = l.getD 33 false := getD_set_ne false (by decide)
        change wpOp _ _ _ _ _ (putL l [(0, 19, .pointer (some ⟨w.heap.size + 2, 0, none⟩)), (1, 20, .pointer (some ⟨w.heap.size + 2, 0, none⟩)), (2, 21, .int .i64 a0), (3, 22, .pointer (some ⟨w.heap.size + 2, 2, none⟩)), (4, 23, .pointer (some ⟨w.heap.size + 2, 2, none⟩)), (5, 24, .int .i64 a1), (6, 25, .int .i64 la), (7, 26, .pointer (some ⟨w.heap.size + 2, 0, none⟩)), (8, 27, .pointer (some ⟨w.heap.size + 2, 1, none⟩)), (9, 28, .int .i64 d0), (10, 29, .pointer (some ⟨w.heap.size + 2, 2, none⟩)), (11, 30, .pointer (some ⟨w.heap.size + 2, 3, none⟩)), (12, 31, .int .i64 d1), (13, 32, .int .i64 ld), (14, 33, .agg #[.int .i64 la, .int .i64 ld]), (15, 34, .pointer (some ⟨w.heap.size + 2, 0, none⟩)), (16, 35, .pointer (some ⟨w.heap.size + 2, 0, none⟩)), (17, 36, .int .i64 a0), (18, 37, .pointer (some ⟨w.heap.size + 2, 2, none⟩)), (19, 38, .pointer (some ⟨w.heap.size + 2, 2, none⟩)), (20, 39, .int .i64 a1), (21, 40, .int .i64 ha), (22, 41, .pointer (some ⟨w.heap.size + 2, 0, none⟩)), (23, 42, .pointer (some ⟨w.heap.size + 2, 1, none⟩)), (24, 43, .int .i64 d0), (25, 44, .pointer (some ⟨w.heap.size + 2, 2, none⟩)), (26, 45, .pointer (some ⟨w.heap.size + 2, 3, none⟩)), (27, 46, .int .i64 d1), (28, 47, .int .i64 hd), (29, 48, .agg #[.int .i64 ha, .int .i64 hd]), (30, 7, .pointer (some ⟨b0, 0, none⟩)), (31, 8, .pointer (some ⟨b1, 0, none⟩))] _) _
        rw [← hV]
        refine wpOp_of (by simp only [List.getElem?_toArray, List.getElem?_cons_succ, List.getElem?_cons_zero]; rfl) rfl ?_
        refine wp_value (v := .int .i64 ha) (w' := x) ?_ ⟨(b0, b1), ((putL_set (by omega) hnn N1 N2 (by rw [hV]; exact List.mem_of_getElem? (i := 21) rfl)).symm.trans (by rw [hV0])), by simp [hl], hk, ?_, ?_, ?_, ?_, ?_⟩
        · clear hV hV0
          simp only [execOp, Go.resolve, List.map_toArray, List.map_cons, List.map_nil]
          rw [ev36 _ (by first | rfl | decide | (simp; done))]
          rw [ev39 _ (by first | rfl | decide | (simp; done))]
          first | (simp [go_sem]; done) | (simp [go_sem, *]; done)
        all_goals (simp only [g30, g31, g32, g33]; assumption)
      · -- 22
        have ev5 : ∀ (A : Act), A.eval (.tmp 5) = (.pointer (some ⟨w.heap.size + 2, 0, none⟩)) → (putL l V A).eval (.tmp 5) = (.pointer (some ⟨w.heap.size + 2, 0, none⟩)) := fun A h => (putL_eval_out (by rw [hV]; show 5 ∉ ([19, 20, 21, 22, 23, 24, 25, 26, 27, 28, 29, 30, 31, 32, 33, 34, 35, 36, 37, 38, 39, 40, 41, 42, 43, 44, 45, 46, 47, 48, 7, 8] : List Nat); decide)).trans h
        have g30 : (l.setIfInBounds 22 true).getD 30 false = l.getD 30 false := getD_set_ne false (by decide)
        have g31 : (l.setIfInBounds 22 true).getD 31 false = l.getD 31 false := getD_set_ne false (by decide)
        have g32 : (l.setIfInBounds 22 true).getD 32 false = l.getD 32 false := getD_set_ne false (by decide)
        have g33 : (l.setIfInBounds 22 true).getD 33 false = l.getD 33 false := getD_set_ne false (by decide)
        change wpOp _ _ _ _ _ (putL l [(0, 19, .pointer (some ⟨w.heap.size + 2, 0, none⟩)), (1, 20, .pointer (some ⟨w.heap.size + 2, 0, none⟩)), (2, 21, .int .i64 a0), (3, 22, .pointer (some ⟨w.heap.size + 2, 2, none⟩)), (4, 23, .pointer (some ⟨w.heap.size + 2, 2, none⟩)), (5, 24, .int .i64 a1), (6, 25, .int .i64 la), (7, 26, .pointer (some ⟨w.heap.size + 2, 0, none⟩)), (8, 27, .pointer (some ⟨w.heap.size + 2, 1, none⟩)), (9, 28, .int .i64 d0), (10, 29, .pointer (some ⟨w.heap.size + 2, 2, none⟩)), (11, 30, .pointer (some ⟨w.heap.size + 2, 3, none⟩)), (12, 31, .int .i64 d1), (13, 32, .int .i64 ld), (14, 33, .agg #[.int .i64 la, .int .i64 ld]), (15, 34, .pointer (some ⟨w.heap.size + 2, 0, none⟩)), (16, 35, .pointer (some ⟨w.heap.size + 2, 0, none⟩)), (17, 36, .int .i64 a0), (18, 37, .pointer (some ⟨w.heap.size + 2, 2, none⟩)), (19, 38, .pointer (some ⟨w.heap.size + 2, 2, none⟩)), (20, 39, .int .i64 a1), (21, 40, .int .i64 ha), (22, 41, .pointer (some ⟨w.heap.size + 2, 0, none⟩)), (23, 42, .pointer (some ⟨w.heap.size + 2, 1, none⟩)), (24, 43, .int .i64 d0), (25, 44, .pointer (some ⟨w.heap.size + 2, 2, none⟩)), (26, 45, .pointer (some ⟨w.heap.size + 2, 3, none⟩)), (27, 46, .int .i64 d1), (28, 47, .int .i64 hd), (29, 48, .agg #[.int .i64 ha, .int .i64 hd]), (30, 7, .pointer (some ⟨b0, 0, none⟩)), (31, 8, .pointer (some ⟨b1, 0, none⟩))] _) _
        rw [← hV]
        refine wpOp_of (by simp only [List.getElem?_toArray, List.getElem?_cons_succ, List.getElem?_cons_zero]; rfl) rfl ?_
        refine wp_value (v := .pointer (some ⟨w.heap.size + 2, 0, none⟩)) (w' := x) ?_ ⟨(b0, b1), ((putL_set (by omega) hnn N1 N2 (by rw [hV]; exact List.mem_of_getElem? (i := 22) rfl)).symm.trans (by rw [hV0])), by simp [hl], hk, ?_, ?_, ?_, ?_, ?_⟩
        · clear hV hV0
          simp only [execOp, Go.resolve, List.map_toArray, List.map_cons, List.map_nil]
          rw [ev5 _ (by first | rfl | decide | (simp; done))]
          first | (simp [go_sem]; done) | (simp [go_sem, *]; done)
        all_goals (simp only [g30, g31, g32, g33]; assumption)
      · -- 23
        have ev41 : ∀ (A : Act), 41 < A.tmps.size → (putL l V A).eval (.tmp 41) = (.pointer (some ⟨w.heap.size + 2, 0, none⟩)) := fun A h => putL_eval (i := 22) (ready_on hi (by kernel_rfl)) N2 (by rw [hV]; exact List.mem_of_getElem? (i := 22) rfl) h
        have g30 : (l.setIfInBounds 23 true).getD 30 false = l.getD 30 false := getD_set_ne false (by decide)
        have g31 : (l.setIfInBounds 23 true).getD 31 false = l.getD 31 false := getD_set_ne false (by decide)
        have g32 : (l.setIfInBounds 23 true).getD 32 false = l.getD 32 false := getD_set_ne false (by decide)
        have g33 : (l.setIfInBounds 23 true).getD 33 false = l.getD 33 false := getD_set_ne false (by decide)
        change wpOp _ _ _ _ _ (putL l [(0, 19, .pointer (some ⟨w.heap.size + 2, 0, none⟩)), (1, 20, .pointer (some ⟨w.heap.size + 2, 0, none⟩)), (2, 21, .int .i64 a0), (3, 22, .pointer (some ⟨w.heap.size + 2, 2, none⟩)), (4, 23, .pointer (some ⟨w.heap.size + 2, 2, none⟩)), (5, 24, .int .i64 a1), (6, 25, .int .i64 la), (7, 26, .pointer (some ⟨w.heap.size + 2, 0, none⟩)), (8, 27, .pointer (some ⟨w.heap.size + 2, 1, none⟩)), (9, 28, .int .i64 d0), (10, 29, .pointer (some ⟨w.heap.size + 2, 2, none⟩)), (11, 30, .pointer (some ⟨w.heap.size + 2, 3, none⟩)), (12, 31, .int .i64 d1), (13, 32, .int .i64 ld), (14, 33, .agg #[.int .i64 la, .int .i64 ld]), (15, 34, .pointer (some ⟨w.heap.size + 2, 0, none⟩)), (16, 35, .pointer (some ⟨w.heap.size + 2, 0, none⟩)), (17, 36, .int .i64 a0), (18, 37, .pointer (some ⟨w.heap.size + 2, 2, none⟩)), (19, 38, .pointer (some ⟨w.heap.size + 2, 2, none⟩)), (20, 39, .int .i64 a1), (21, 40, .int .i64 ha), (22, 41, .pointer (some ⟨w.heap.size + 2, 0, none⟩)), (23, 42, .pointer (some ⟨w.heap.size + 2, 1, none⟩)), (24, 43, .int .i64 d0), (25, 44, .pointer (some ⟨w.heap.size + 2, 2, none⟩)), (26, 45, .pointer (some ⟨w.heap.size + 2, 3, none⟩)), (27, 46, .int .i64 d1), (28, 47, .int .i64 hd), (29, 48, .agg #[.int .i64 ha, .int .i64 hd]), (30, 7, .pointer (some ⟨b0, 0, none⟩)), (31, 8, .pointer (some ⟨b1, 0, none⟩))] _) _
        rw [← hV]
        refine wpOp_of (by simp only [List.getElem?_toArray, List.getElem?_cons_succ, List.getElem?_cons_zero]; rfl) rfl ?_
        refine wp_value (v := .pointer (some ⟨w.heap.size + 2, 1, none⟩)) (w' := x) ?_ ⟨(b0, b1), ((putL_set (by omega) hnn N1 N2 (by rw [hV]; exact List.mem_of_getElem? (i := 23) rfl)).symm.trans (by rw [hV0])), by simp [hl], hk, ?_, ?_, ?_, ?_, ?_⟩
        · clear hV hV0
          simp only [execOp, Go.resolve, List.map_toArray, List.map_cons, List.map_nil]
          rw [ev41 _ (by first | rfl | decide | (simp; done))]
          first | (simp [go_sem]; done) | (simp [go_sem, *]; done)
        all_goals (simp only [g30, g31, g32, g33]; assumption)
      · -- 24
        have ev42 : ∀ (A : Act), 42 < A.tmps.size → (putL l V A).eval (.tmp 42) = (.pointer (some ⟨w.heap.size + 2, 1, none⟩)) := fun A h => putL_eval (i := 23) (ready_on hi (by kernel_rfl)) N2 (by rw [hV]; exact List.mem_of_getElem? (i := 23) rfl) h
        have g30 : (l.setIfInBounds 24 true).getD 30 false = l.getD 30 false := getD_set_ne false (by decide)
        have g31 : (l.setIfInBounds 24 true).getD 31 false = l.getD 31 false := getD_set_ne false (by decide)
        have g32 : (l.setIfInBounds 24 true).getD 32 false = l.getD 32 false := getD_set_ne false (by decide)
        have g33 : (l.setIfInBounds 24 true).getD 33 false = l.getD 33 false := getD_set_ne false (by decide)
        change wpOp _ _ _ _ _ (putL l [(0, 19, .pointer (some ⟨w.heap.size + 2, 0, none⟩)), (1, 20, .pointer (some ⟨w.heap.size + 2, 0, none⟩)), (2, 21, .int .i64 a0), (3, 22, .pointer (some ⟨w.heap.size + 2, 2, none⟩)), (4, 23, .pointer (some ⟨w.heap.size + 2, 2, none⟩)), (5, 24, .int .i64 a1), (6, 25, .int .i64 la), (7, 26, .pointer (some ⟨w.heap.size + 2, 0, none⟩)), (8, 27, .pointer (some ⟨w.heap.size + 2, 1, none⟩)), (9, 28, .int .i64 d0), (10, 29, .pointer (some ⟨w.heap.size + 2, 2, none⟩)), (11, 30, .pointer (some ⟨w.heap.size + 2, 3, none⟩)), (12, 31, .int .i64 d1), (13, 32, .int .i64 ld), (14, 33, .agg #[.int .i64 la, .int .i64 ld]), (15, 34, .pointer (some ⟨w.heap.size + 2, 0, none⟩)), (16, 35, .pointer (some ⟨w.heap.size + 2, 0, none⟩)), (17, 36, .int .i64 a0), (18, 37, .pointer (some ⟨w.heap.size + 2, 2, none⟩)), (19, 38, .pointer (some ⟨w.heap.size + 2, 2, none⟩)), (20, 39, .int .i64 a1), (21, 40, .int .i64 ha), (22, 41, .pointer (some ⟨w.heap.size + 2, 0, none⟩)), (23, 42, .pointer (some ⟨w.heap.size + 2, 1, none⟩)), (24, 43, .int .i64 d0), (25, 44, .pointer (some ⟨w.heap.size + 2, 2, none⟩)), (26, 45, .pointer (some ⟨w.heap.size + 2, 3, none⟩)), (27, 46, .int .i64 d1), (28, 47, .int .i64 hd), (29, 48, .agg #[.int .i64 ha, .int .i64 hd]), (30, 7, .pointer (some ⟨b0, 0, none⟩)), (31, 8, .pointer (some ⟨b1, 0, none⟩))] _) _
        rw [← hV]
        refine wpOp_of (by simp only [List.getElem?_toArray, List.getElem?_cons_succ, List.getElem?_cons_zero]; rfl) rfl ?_
        refine wp_value (v := .int .i64 d0) (w' := x) ?_ ⟨(b0, b1), ((putL_set (by omega) hnn N1 N2 (by rw [hV]; exact List.mem_of_getElem? (i := 24) rfl)).symm.trans (by rw [hV0])), by simp [hl], hk, ?_, ?_, ?_, ?_, ?_⟩
        · clear hV hV0
          simp only [execOp, Go.resolve, List.map_toArray, List.map_cons, List.map_nil]
          rw [ev42 _ (by first | rfl | decide | (simp; done))]
          obtain ⟨oz, og, oc0, oc1, oc2, oc3, _⟩ := OwnB.kept hk HB0_2.out
          first | (simp [go_sem]; done) | (simp [go_sem, *]; done)
        all_goals (simp only [g30, g31, g32, g33]; assumption)
      · -- 25
        have ev5 : ∀ (A : Act), A.eval (.tmp 5) = (.pointer (some ⟨w.heap.size + 2, 0, none⟩)) → (putL l V A).eval (.tmp 5) = (.pointer (some ⟨w.heap.size + 2, 0, none⟩)) := fun A h => (putL_eval_out (by rw [hV]; show 5 ∉ ([19, 20, 21, 22, 23, 24, 25, 26, 27, 28, 29, 30, 31, 32, 33, 34, 35, 36, 37, 38, 39, 40, 41, 42, 43, 44, 45, 46, 47, 48, 7, 8] : List Nat); decide)).trans h
        have g30 : (l.setIfInBounds 25 true).getD 30 false = l.getD 30 false := getD_set_ne false (by decide)
        have g31 : (l.setIfInBounds 25 true).getD 31 false = l.getD 31 false := getD_set_ne false (by decide)
        have g32 : (l.setIfInBounds 25 true).getD 32 false = l.getD 32 false := getD_set_ne false (by decide)
        have g33 : (l.setIfInBounds 25 true).getD 33 false = l.getD 33 false := getD_set_ne false (by decide)
        change wpOp _ _ _ _ _ (putL l [(0, 19, .pointer (some ⟨w.heap.size + 2, 0, none⟩)), (1, 20, .pointer (some ⟨w.heap.size + 2, 0, none⟩)), (2, 21, .int .i64 a0), (3, 22, .pointer (some ⟨w.heap.size + 2, 2, none⟩)), (4, 23, .pointer (some ⟨w.heap.size + 2, 2, none⟩)), (5, 24, .int .i64 a1), (6, 25, .int .i64 la), (7, 26, .pointer (some ⟨w.heap.size + 2, 0, none⟩)), (8, 27, .pointer (some ⟨w.heap.size + 2, 1, none⟩)), (9, 28, .int .i64 d0), (10, 29, .pointer (some ⟨w.heap.size + 2, 2, none⟩)), (11, 30, .pointer (some ⟨w.heap.size + 2, 3, none⟩)), (12, 31, .int .i64 d1), (13, 32, .int .i64 ld), (14, 33, .agg #[.int .i64 la, .int .i64 ld]), (15, 34, .pointer (some ⟨w.heap.size + 2, 0, none⟩)), (16, 35, .pointer (some ⟨w.heap.size + 2, 0, none⟩)), (17, 36, .int .i64 a0), (18, 37, .pointer (some ⟨w.heap.size + 2, 2, none⟩)), (19, 38, .pointer (some ⟨w.heap.size + 2, 2, none⟩)), (20, 39, .int .i64 a1), (21, 40, .int .i64 ha), (22, 41, .pointer (some ⟨w.heap.size + 2, 0, none⟩)), (23, 42, .pointer (some ⟨w.heap.size + 2, 1, none⟩)), (24, 43, .int .i64 d0), (25, 44, .pointer (some ⟨w.heap.size + 2, 2, none⟩)), (26, 45, .pointer (some ⟨w.heap.size + 2, 3, none⟩)), (27, 46, .int .i64 d1), (28, 47, .int .i64 hd), (29, 48, .agg #[.int .i64 ha, .int .i64 hd]), (30, 7, .pointer (some ⟨b0, 0, none⟩)), (31, 8, .pointer (some ⟨b1, 0, none⟩))] _) _
        rw [← hV]
        refine wpOp_of (by simp only [List.getElem?_toArray, List.getElem?_cons_succ, List.getElem?_cons_zero]; rfl) rfl ?_
        refine wp_value (v := .pointer (some ⟨w.heap.size + 2, 2, none⟩)) (w' := x) ?_ ⟨(b0, b1), ((putL_set (by omega) hnn N1 N2 (by rw [hV]; exact List.mem_of_getElem? (i := 25) rfl)).symm.trans (by rw [hV0])), by simp [hl], hk, ?_, ?_, ?_, ?_, ?_⟩
        · clear hV hV0
          simp only [execOp, Go.resolve, List.map_toArray, List.map_cons, List.map_nil]
          rw [ev5 _ (by first | rfl | decide | (simp; done))]
          first | (simp [go_sem]; done) | (simp [go_sem, *]; done)
        all_goals (simp only [g30, g31, g32, g33]; assumption)
      · -- 26
        have ev44 : ∀ (A : Act), 44 < A.tmps.size → (putL l V A).eval (.tmp 44) = (.pointer (some ⟨w.heap.size + 2, 2, none⟩)) := fun A h => putL_eval (i := 25) (ready_on hi (by kernel_rfl)) N2 (by rw [hV]; exact List.mem_of_getElem? (i := 25) rfl) h
        have g30 : (l.setIfInBounds 26 true).getD 30 false = l.getD 30 false := getD_set_ne false (by decide)
        have g31 : (l.setIfInBounds 26 true).getD 31 false = l.getD 31 false := getD_set_ne false (by decide)
        have g32 : (l.setIfInBounds 26 true).getD 32 false = l.getD 32 false := getD_set_ne false (by decide)
        have g33 : (l.setIfInBounds 26 true).getD 33 false = l.getD 33 false := getD_set_ne false (by decide)
        change wpOp _ _ _ _ _ (putL l [(0, 19, .pointer (some ⟨w.heap.size + 2, 0, none⟩)), (1, 20, .pointer (some ⟨w.heap.size + 2, 0, none⟩)), (2, 21, .int .i64 a0), (3, 22, .pointer (some ⟨w.heap.size + 2, 2, none⟩)), (4, 23, .pointer (some ⟨w.heap.size + 2, 2, none⟩)), (5, 24, .int .i64 a1), (6, 25, .int .i64 la), (7, 26, .pointer (some ⟨w.heap.size + 2, 0, none⟩)), (8, 27, .pointer (some ⟨w.heap.size + 2, 1, none⟩)), (9, 28, .int .i64 d0), (10, 29, .pointer (some ⟨w.heap.size + 2, 2, none⟩)), (11, 30, .pointer (some ⟨w.heap.size + 2, 3, none⟩)), (12, 31, .int .i64 d1), (13, 32, .int .i64 ld), (14, 33, .agg #[.int .i64 la, .int .i64 ld]), (15, 34, .pointer (some ⟨w.heap.size + 2, 0, none⟩)), (16, 35, .pointer (some ⟨w.heap.size + 2, 0, none⟩)), (17, 36, .int .i64 a0), (18, 37, .pointer (some ⟨w.heap.size + 2, 2, none⟩)), (19, 38, .pointer (some ⟨w.heap.size + 2, 2, none⟩)), (20, 39, .int .i64 a1), (21, 40, .int .i64 ha), (22, 41, .pointer (some ⟨w.heap.size + 2, 0, none⟩)), (23, 42, .pointer (some ⟨w.heap.size + 2, 1, none⟩)), (24, 43, .int .i64 d0), (25, 44, .pointer (some ⟨w.heap.size + 2, 2, none⟩)), (26, 45, .pointer (some ⟨w.heap.size + 2, 3, none⟩)), (27, 46, .int .i64 d1), (28, 47, .int .i64 hd), (29, 48, .agg #[.int .i64 ha, .int .i64 hd]), (30, 7, .pointer (some ⟨b0, 0, none⟩)), (31, 8, .pointer (some ⟨b1, 0, none⟩))] _) _
        rw [← hV]
        refine wpOp_of (by simp only [List.getElem?_toArray, List.getElem?_cons_succ, List.getElem?_cons_zero]; rfl) rfl ?_
        refine wp_value (v := .pointer (some ⟨w.heap.size + 2, 3, none⟩)) (w' := x) ?_ ⟨(b0, b1), ((putL_set (by omega) hnn N1 N2 (by rw [hV]; exact List.mem_of_getElem? (i := 26) rfl)).symm.trans (by rw [hV0])), by simp [hl], hk, ?_, ?_, ?_, ?_, ?_⟩
        · clear hV hV0
          simp only [execOp, Go.resolve, List.map_toArray, List.map_cons, List.map_nil]
          rw [ev44 _ (by first | rfl | decide | (simp; done))]
          first | (simp [go_sem]; done) | (simp [go_sem, *]; done)
        all_goals (simp only [g30, g31, g32, g33]; assumption)
      · -- 27
        have ev45 : ∀ (A : Act), 45 < A.tmps.size → (putL l V A).eval (.tmp 45) = (.pointer (some ⟨w.heap.size + 2, 3, none⟩)) := fun A h => putL_eval (i := 26) (ready_on hi (by kernel_rfl)) N2 (by rw [hV]; exact List.mem_of_getElem? (i := 26) rfl) h
        have g30 : (l.setIfInBounds 27 true).getD 30 false = l.getD 30 false := getD_set_ne false (by decide)
        have g31 : (l.setIfInBounds 27 true).getD 31 false = l.getD 31 false := getD_set_ne false (by decide)
        have g32 : (l.setIfInBounds 27 true).getD 32 false = l.getD 32 false := getD_set_ne false (by decide)
        have g33 : (l.setIfInBounds 27 true).getD 33 false = l.getD 33 false := getD_set_ne false (by decide)
        change wpOp _ _ _ _ _ (putL l [(0, 19, .pointer (some ⟨w.heap.size + 2, 0, none⟩)), (1, 20, .pointer (some ⟨w.heap.size + 2, 0, none⟩)), (2, 21, .int .i64 a0), (3, 22, .pointer (some ⟨w.heap.size + 2, 2, none⟩)), (4, 23, .pointer (some ⟨w.heap.size + 2, 2, none⟩)), (5, 24, .int .i64 a1), (6, 25, .int .i64 la), (7, 26, .pointer (some ⟨w.heap.size + 2, 0, none⟩)), (8, 27, .pointer (some ⟨w.heap.size + 2, 1, none⟩)), (9, 28, .int .i64 d0), (10, 29, .pointer (some ⟨w.heap.size + 2, 2, none⟩)), (11, 30, .pointer (some ⟨w.heap.size + 2, 3, none⟩)), (12, 31, .int .i64 d1), (13, 32, .int .i64 ld), (14, 33, .agg #[.int .i64 la, .int .i64 ld]), (15, 34, .pointer (some ⟨w.heap.size + 2, 0, none⟩)), (16, 35, .pointer (some ⟨w.heap.size + 2, 0, none⟩)), (17, 36, .int .i64 a0), (18, 37, .pointer (some ⟨w.heap.size + 2, 2, none⟩)), (19, 38, .pointer (some ⟨w.heap.size + 2, 2, none⟩)), (20, 39, .int .i64 a1), (21, 40, .int .i64 ha), (22, 41, .pointer (some ⟨w.heap.size + 2, 0, none⟩)), (23, 42, .pointer (some ⟨w.heap.size + 2, 1, none⟩)), (24, 43, .int .i64 d0), (25, 44, .pointer (some ⟨w.heap.size + 2, 2, none⟩)), (26, 45, .pointer (some ⟨w.heap.size + 2, 3, none⟩)), (27, 46, .int .i64 d1), (28, 47, .int .i64 hd), (29, 48, .agg #[.int .i64 ha, .int .i64 hd]), (30, 7, .pointer (some ⟨b0, 0, none⟩)), (31, 8, .pointer (some ⟨b1, 0, none⟩))] _) _
        rw [← hV]
        refine wpOp_of (by simp only [List.getElem?_toArray, List.getElem?_cons_succ, List.getElem?_cons_zero]; rfl) rfl ?_
        refine wp_value (v := .int .i64 d1) (w' := x) ?_ ⟨(b0, b1), ((putL_set (by omega) hnn N1 N2 (by rw [hV]; exact List.mem_of_getElem? (i := 27) rfl)).symm.trans (by rw [hV0])), by simp [hl], hk, ?_, ?_, ?_, ?_, ?_⟩
        · clear hV hV0
          simp only [execOp, Go.resolve, List.map_toArray, List.map_cons, List.map_nil]
          rw [ev45 _ (by first | rfl | decide | (simp; done))]
          obtain ⟨oz, og, oc0, oc1, oc2, oc3, _⟩ := OwnB.kept hk HB0_2.out
          first | (simp [go_sem]; done) | (simp [go_sem, *]; done)
        all_goals (simp only [g30, g31, g32, g33]; assumption)
      · -- 28
        have ev43 : ∀ (A : Act), 43 < A.tmps.size → (putL l V A).eval (.tmp 43) = (.int .i64 d0) := fun A h => putL_eval (i := 24) (ready_on hi (by kernel_rfl)) N2 (by rw [hV]; exact List.mem_of_getElem? (i := 24) rfl) h
        have ev46 : ∀ (A : Act), 46 < A.tmps.size → (putL l V A).eval (.tmp 46) = (.int .i64 d1) := fun A h => putL_eval (i := 27) (ready_on hi (by kernel_rfl)) N2 (by rw [hV]; exact List.mem_of_getElem? (i := 27) rfl) h
        have g30 : (l.setIfInBounds 28 true).getD 30 false = l.getD 30 false := getD_set_ne false (by decide)
        have g31 : (l.setIfInBounds 28 true).getD 31 false = l.getD 31 false := getD_set_ne false (by decide)
        have g32 : (l.setIfInBounds 28 true).getD 32 false = l.getD 32 false := getD_set_ne false (by decide)
        have g33 : (l.setIfInBounds 28 true).getD 33 false = l.getD 33 false := getD_set_ne false (by decide)
        change wpOp _ _ _ _ _ (putL l [(0, 19, .pointer (some ⟨w.heap.size + 2, 0, none⟩)), (1, 20, .pointer (some ⟨w.heap.size + 2, 0, none⟩)), (2, 21, .int .i64 a0), (3, 22, .pointer (some ⟨w.heap.size + 2, 2, none⟩)), (4, 23, .pointer (some ⟨w.heap.size + 2, 2, none⟩)), (5, 24, .int .i64 a1), (6, 25, .int .i64 la), (7, 26, .pointer (some ⟨w.heap.size + 2, 0, none⟩)), (8, 27, .pointer (some ⟨w.heap.size + 2, 1, none⟩)), (9, 28, .int .i64 d0), (10, 29, .pointer (some ⟨w.heap.size + 2, 2, none⟩)), (11, 30, .pointer (some ⟨w.heap.size + 2, 3, none⟩)), (12, 31, .int .i64 d1), (13, 32, .int .i64 ld), (14, 33, .agg #[.int .i64 la, .int .i64 ld]), (15, 34, .pointer (some ⟨w.heap.size + 2, 0, none⟩)), (16, 35, .pointer (some ⟨w.heap.size + 2, 0, none⟩)), (17, 36, .int .i64 a0), (18, 37, .pointer (some ⟨w.heap.size + 2, 2, none⟩)), (19, 38, .pointer (some ⟨w.heap.size + 2, 2, none⟩)), (20, 39, .int .i64 a1), (21, 40, .int .i64 ha), (22, 41, .pointer (some ⟨w.heap.size + 2, 0, none⟩)), (23, 42, .pointer (some ⟨w.heap.size + 2, 1, none⟩)), (24, 43, .int .i64 d0), (25, 44, .pointer (some ⟨w.heap.size + 2, 2, none⟩)), (26, 45, .pointer (some ⟨w.heap.size + 2, 3, none⟩)), (27, 46, .int .i64 d1), (28, 47, .int .i64 hd), (29, 48, .agg #[.int .i64 ha, .int .i64 hd]), (30, 7, .pointer (some ⟨b0, 0, none⟩)), (31, 8, .pointer (some ⟨b1, 0, none⟩))] _) _
        rw [← hV]
        refine wpOp_of (by simp only [List.getElem?_toArray, List.getElem?_cons_succ, List.getElem?_cons_zero]; rfl) rfl ?_
        refine wp_value (v := .int .i64 hd) (w' := x) ?_ ⟨(b0, b1), ((putL_set (by omega) hnn N1 N2 (by rw [hV]; exact List.mem_of_getElem? (i := 28) rfl)).symm.trans (by rw [hV0])), by simp [hl], hk, ?_, ?_, ?_, ?_, ?_⟩
        · clear hV hV0
          simp only [execOp, Go.resolve, List.map_toArray, List.map_cons, List.map_nil]
          rw [ev43 _ (by first | rfl | decide | (simp; done))]
          rw [ev46 _ (by first | rfl | decide | (simp; done))]
          first | (simp [go_sem]; done) | (simp [go_sem, *]; done)
        all_goals (simp only [g30, g31, g32, g33]; assumption)
      · -- 29
        have ev40 : ∀ (A : Act), 40 < A.tmps.size → (putL l V A).eval (.tmp 40) = (.int .i64 ha) := fun A h => putL_eval (i := 21) (ready_on hi (by kernel_rfl)) N2 (by rw [hV]; exact List.mem_of_getElem? (i := 21) rfl) h
        have ev47 : ∀ (A : Act), 47 < A.tmps.size → (putL l V A).eval (.tmp 47) = (.int .i64 hd) := fun A h => putL_eval (i := 28) (ready_on hi (by kernel_rfl)) N2 (by rw [hV]; exact List.mem_of_getElem? (i := 28) rfl) h
        have g30 : (l.setIfInBounds 29 true).getD 30 false = l.getD 30 false := getD_set_ne false (by decide)
        have g31 : (l.setIfInBounds 29 true).getD 31 false = l.getD 31 false := getD_set_ne false (by decide)
        have g32 : (l.setIfInBounds 29 true).getD 32 false = l.getD 32 false := getD_set_ne false (by decide)
        have g33 : (l.setIfInBounds 29 true).getD 33 false = l.getD 33 false := getD_set_ne false (by decide)
        change wpOp _ _ _ _ _ (putL l [(0, 19, .pointer (some ⟨w.heap.size + 2, 0, none⟩)), (1, 20, .pointer (some ⟨w.heap.size + 2, 0, none⟩)), (2, 21, .int .i64 a0), (3, 22, .pointer (some ⟨w.heap.size + 2, 2, none⟩)), (4, 23, .pointer (some ⟨w.heap.size + 2, 2, none⟩)), (5, 24, .int .i64 a1), (6, 25, .int .i64 la), (7, 26, .pointer (some ⟨w.heap.size + 2, 0, none⟩)), (8, 27, .pointer (some ⟨w.heap.size + 2, 1, none⟩)), (9, 28, .int .i64 d0), (10, 29, .pointer (some ⟨w.heap.size + 2, 2, none⟩)), (11, 30, .pointer (some ⟨w.heap.size + 2, 3, none⟩)), (12, 31, .int .i64 d1), (13, 32, .int .i64 ld), (14, 33, .agg #[.int .i64 la, .int .i64 ld]), (15, 34, .pointer (some ⟨w.heap.size + 2, 0, none⟩)), (16, 35, .pointer (some ⟨w.heap.size + 2, 0, none⟩)), (17, 36, .int .i64 a0), (18, 37, .pointer (some ⟨w.heap.size + 2, 2, none⟩)), (19, 38, .pointer (some ⟨w.heap.size + 2, 2, none⟩)), (20, 39, .int .i64 a1), (21, 40, .int .i64 ha), (22, 41, .pointer (some ⟨w.heap.size + 2, 0, none⟩)), (23, 42, .pointer (some ⟨w.heap.size + 2, 1, none⟩)), (24, 43, .int .i64 d0), (25, 44, .pointer (some ⟨w.heap.size + 2, 2, none⟩)), (26, 45, .pointer (some ⟨w.heap.size + 2, 3, none⟩)), (27, 46, .int .i64 d1), (28, 47, .int .i64 hd), (29, 48, .agg #[.int .i64 ha, .int .i64 hd]), (30, 7, .pointer (some ⟨b0, 0, none⟩)), (31, 8, .pointer (some ⟨b1, 0, none⟩))] _) _
        rw [← hV]
        refine wpOp_of (by simp only [List.getElem?_toArray, List.getElem?_cons_succ, List.getElem?_cons_zero]; rfl) rfl ?_
        refine wp_value (v := .agg #[.int .i64 ha, .int .i64 hd]) (w' := x) ?_ ⟨(b0, b1), ((putL_set (by omega) hnn N1 N2 (by rw [hV]; exact List.mem_of_getElem? (i := 29) rfl)).symm.trans (by rw [hV0])), by simp [hl], hk, ?_, ?_, ?_, ?_, ?_⟩
        · clear hV hV0
          simp only [execOp, Go.resolve, List.map_toArray, List.map_cons, List.map_nil]
          rw [ev40 _ (by first | rfl | decide | (simp; done))]
          rw [ev47 _ (by first | rfl | decide | (simp; done))]
          first | (simp [go_sem]; done) | (simp [go_sem, *]; done)
        all_goals (simp only [g30, g31, g32, g33]; assumption)
      · -- 30
        have g31 : (l.setIfInBounds 30 true).getD 31 false = l.getD 31 false := getD_set_ne false (by decide)
        have g32 : (l.setIfInBounds 30 true).getD 32 false = l.getD 32 false := getD_set_ne false (by decide)
        have g33 : (l.setIfInBounds 30 true).getD 33 false = l.getD 33 false := getD_set_ne false (by decide)
        change wpOp _ _ _ _ _ (putL l [(0, 19, .pointer (some ⟨w.heap.size + 2, 0, none⟩)), (1, 20, .pointer (some ⟨w.heap.size + 2, 0, none⟩)), (2, 21, .int .i64 a0), (3, 22, .pointer (some ⟨w.heap.size + 2, 2, none⟩)), (4, 23, .pointer (some ⟨w.heap.size + 2, 2, none⟩)), (5, 24, .int .i64 a1), (6, 25, .int .i64 la), (7, 26, .pointer (some ⟨w.heap.size + 2, 0, none⟩)), (8, 27, .pointer (some ⟨w.heap.size + 2, 1, none⟩)), (9, 28, .int .i64 d0), (10, 29, .pointer (some ⟨w.heap.size + 2, 2, none⟩)), (11, 30, .pointer (some ⟨w.heap.size + 2, 3, none⟩)), (12, 31, .int .i64 d1), (13, 32, .int .i64 ld), (14, 33, .agg #[.int .i64 la, .int .i64 ld]), (15, 34, .pointer (some ⟨w.heap.size + 2, 0, none⟩)), (16, 35, .pointer (some ⟨w.heap.size + 2, 0, none⟩)), (17, 36, .int .i64 a0), (18, 37, .pointer (some ⟨w.heap.size + 2, 2, none⟩)), (19, 38, .pointer (some ⟨w.heap.size + 2, 2, none⟩)), (20, 39, .int .i64 a1), (21, 40, .int .i64 ha), (22, 41, .pointer (some ⟨w.heap.size + 2, 0, none⟩)), (23, 42, .pointer (some ⟨w.heap.size + 2, 1, none⟩)), (24, 43, .int .i64 d0), (25, 44, .pointer (some ⟨w.heap.size + 2, 2, none⟩)), (26, 45, .pointer (some ⟨w.heap.size + 2, 3, none⟩)), (27, 46, .int .i64 d1), (28, 47, .int .i64 hd), (29, 48, .agg #[.int .i64 ha, .int .i64 hd]), (30, 7, .pointer (some ⟨b0, 0, none⟩)), (31, 8, .pointer (some ⟨b1, 0, none⟩))] _) _
        rw [← hV]
        refine wpOp_of (by simp only [List.getElem?_toArray, List.getElem?_cons_succ, List.getElem?_cons_zero]; rfl) rfl ?_
        have gi : (l.setIfInBounds 30 true).getD 30 false = true := by simp [show 30 < l.size by omega]
        have hs32 : l.getD 32 false = false := by
          cases hc : l.getD 32 false with
          | false => rfl
          | true => have := d30 hc; rw [hnn] at this; cases this
        obtain ⟨V2, hV2⟩ : ∃ V2 : List (Nat × Nat × Value), V2 = [(0, 19, .pointer (some ⟨w.heap.size + 2, 0, none⟩)), (1, 20, .pointer (some ⟨w.heap.size + 2, 0, none⟩)), (2, 21, .int .i64 a0), (3, 22, .pointer (some ⟨w.heap.size + 2, 2, none⟩)), (4, 23, .pointer (some ⟨w.heap.size + 2, 2, none⟩)), (5, 24, .int .i64 a1), (6, 25, .int .i64 la), (7, 26, .pointer (some ⟨w.heap.size + 2, 0, none⟩)), (8, 27, .pointer (some ⟨w.heap.size + 2, 1, none⟩)), (9, 28, .int .i64 d0), (10, 29, .pointer (some ⟨w.heap.size + 2, 2, none⟩)), (11, 30, .pointer (some ⟨w.heap.size + 2, 3, none⟩)), (12, 31, .int .i64 d1), (13, 32, .int .i64 ld), (14, 33, .agg #[.int .i64 la, .int .i64 ld]), (15, 34, .pointer (some ⟨w.heap.size + 2, 0, none⟩)), (16, 35, .pointer (some ⟨w.heap.size + 2, 0, none⟩)), (17, 36, .int .i64 a0), (18, 37, .pointer (some ⟨w.heap.size + 2, 2, none⟩)), (19, 38, .pointer (some ⟨w.heap.size + 2, 2, none⟩)), (20, 39, .int .i64 a1), (21, 40, .int .i64 ha), (22, 41, .pointer (some ⟨w.heap.size + 2, 0, none⟩)), (23, 42, .pointer (some ⟨w.heap.size + 2, 1, none⟩)), (24, 43, .int .i64 d0), (25, 44, .pointer (some ⟨w.heap.size + 2, 2, none⟩)), (26, 45, .pointer (some ⟨w.heap.size + 2, 3, none⟩)), (27, 46, .int .i64 d1), (28, 47, .int .i64 hd), (29, 48, .agg #[.int .i64 ha, .int .i64 hd]), (30, 7, .pointer (some ⟨x.heap.size, 0, none⟩)), (31, 8, .pointer (some ⟨b1, 0, none⟩))] := ⟨_, rfl⟩
        have M1 : (V2.map (·.1)).Nodup := by rw [hV2]; show ([0, 1, 2, 3, 4, 5, 6, 7, 8, 9, 10, 11, 12, 13, 14, 15, 16, 17, 18, 19, 20, 21, 22, 23, 24, 25, 26, 27, 28, 29, 30, 31] : List Nat).Nodup; decide
        have M2 : (V2.map (·.2.1)).Nodup := by rw [hV2]; show ([19, 20, 21, 22, 23, 24, 25, 26, 27, 28, 29, 30, 31, 32, 33, 34, 35, 36, 37, 38, 39, 40, 41, 42, 43, 44, 45, 46, 47, 48, 7, 8] : List Nat).Nodup; decide
        have hcg : ∀ A : Act, putL l V2 A = putL l V A := fun A => by rw [hV2, hV]; exact putL_mid hnn _ [(0, 19, .pointer (some ⟨w.heap.size + 2, 0, none⟩)), (1, 20, .pointer (some ⟨w.heap.size + 2, 0, none⟩)), (2, 21, .int .i64 a0), (3, 22, .pointer (some ⟨w.heap.size + 2, 2, none⟩)), (4, 23, .pointer (some ⟨w.heap.size + 2, 2, none⟩)), (5, 24, .int .i64 a1), (6, 25, .int .i64 la), (7, 26, .pointer (some ⟨w.heap.size + 2, 0, none⟩)), (8, 27, .pointer (some ⟨w.heap.size + 2, 1, none⟩)), (9, 28, .int .i64 d0), (10, 29, .pointer (some ⟨w.heap.size + 2, 2, none⟩)), (11, 30, .pointer (some ⟨w.heap.size + 2, 3, none⟩)), (12, 31, .int .i64 d1), (13, 32, .int .i64 ld), (14, 33, .agg #[.int .i64 la, .int .i64 ld]), (15, 34, .pointer (some ⟨w.heap.size + 2, 0, none⟩)), (16, 35, .pointer (some ⟨w.heap.size + 2, 0, none⟩)), (17, 36, .int .i64 a0), (18, 37, .pointer (some ⟨w.heap.size + 2, 2, none⟩)), (19, 38, .pointer (some ⟨w.heap.size + 2, 2, none⟩)), (20, 39, .int .i64 a1), (21, 40, .int .i64 ha), (22, 41, .pointer (some ⟨w.heap.size + 2, 0, none⟩)), (23, 42, .pointer (some ⟨w.heap.size + 2, 1, none⟩)), (24, 43, .int .i64 d0), (25, 44, .pointer (some ⟨w.heap.size + 2, 2, none⟩)), (26, 45, .pointer (some ⟨w.heap.size + 2, 3, none⟩)), (27, 46, .int .i64 d1), (28, 47, .int .i64 hd), (29, 48, .agg #[.int .i64 ha, .int .i64 hd])] [(31, 8, .pointer (some ⟨b1, 0, none⟩))]
        refine wp_value (v := .pointer (some ⟨x.heap.size, 0, none⟩)) (w' := x.alloc (.cells #[.int .i64 0, .int .i64 0] 23)) ?_ ⟨(x.heap.size, b1), (show _ = putL (l.setIfInBounds 30 true) [(0, 19, .pointer (some ⟨w.heap.size + 2, 0, none⟩)), (1, 20, .pointer (some ⟨w.heap.size + 2, 0, none⟩)), (2, 21, .int .i64 a0), (3, 22, .pointer (some ⟨w.heap.size + 2, 2, none⟩)), (4, 23, .pointer (some ⟨w.heap.size + 2, 2, none⟩)), (5, 24, .int .i64 a1), (6, 25, .int .i64 la), (7, 26, .pointer (some ⟨w.heap.size + 2, 0, none⟩)), (8, 27, .pointer (some ⟨w.heap.size + 2, 1, none⟩)), (9, 28, .int .i64 d0), (10, 29, .pointer (some ⟨w.heap.size + 2, 2, none⟩)), (11, 30, .pointer (some ⟨w.heap.size + 2, 3, none⟩)), (12, 31, .int .i64 d1), (13, 32, .int .i64 ld), (14, 33, .agg #[.int .i64 la, .int .i64 ld]), (15, 34, .pointer (some ⟨w.heap.size + 2, 0, none⟩)), (16, 35, .pointer (some ⟨w.heap.size + 2, 0, none⟩)), (17, 36, .int .i64 a0), (18, 37, .pointer (some ⟨w.heap.size + 2, 2, none⟩)), (19, 38, .pointer (some ⟨w.heap.size + 2, 2, none⟩)), (20, 39, .int .i64 a1), (21, 40, .int .i64 ha), (22, 41, .pointer (some ⟨w.heap.size + 2, 0, none⟩)), (23, 42, .pointer (some ⟨w.heap.size + 2, 1, none⟩)), (24, 43, .int .i64 d0), (25, 44, .pointer (some ⟨w.heap.size + 2, 2, none⟩)), (26, 45, .pointer (some ⟨w.heap.size + 2, 3, none⟩)), (27, 46, .int .i64 d1), (28, 47, .int .i64 hd), (29, 48, .agg #[.int .i64 ha, .int .i64 hd]), (30, 7, .pointer (some ⟨x.heap.size, 0, none⟩)), (31, 8, .pointer (some ⟨b1, 0, none⟩))] _ by rw [← hV2, putL_set (by omega) hnn M1 M2 (by rw [hV2]; exact List.mem_of_getElem? (i := 30) rfl), hcg]), by simp [hl], hk.alloc _, ?_, ?_, ?_, ?_, ?_⟩
        · clear hV hV0 hV2
          simp only [execOp]
          first | (simp [go_sem]; done) | (simp [go_sem, *]; done)
        · intro _
          refine ⟨hk.size, fun q => ?_, fun _ => own_alloc x [.int .i64 0, .int .i64 0] 23⟩
          rw [g32, hs32] at q; cases q
        · intro q
          rw [g31] at q
          obtain ⟨q1, q2, q3⟩ := h31 q
          exact ⟨q1, fun z => OwnB.alloc (q2 (by rwa [g33] at z)) _, fun z => OwnB.alloc (q3 (by rwa [g33] at z)) _⟩
        · intro qa qb
          have qo : l.getD 31 false = true := by first | (rwa [g31] at qa) | (rwa [g31] at qb)
          obtain ⟨_, q2, q3⟩ := h31 qo
          have lt : b1 < x.heap.size := by
            cases hc : l.getD 33 false with
            | true => exact (q2 hc).1
            | false => exact (q3 hc).1
          (try simp only []); omega
        · intro _; exact gi
        · simp only [g31, g32, g33]; assumption
      · -- 31
        have g30 : (l.setIfInBounds 31 true).getD 30 false = l.getD 30 false := getD_set_ne false (by decide)
        have g32 : (l.setIfInBounds 31 true).getD 32 false = l.getD 32 false := getD_set_ne false (by decide)
        have g33 : (l.setIfInBounds 31 true).getD 33 false = l.getD 33 false := getD_set_ne false (by decide)
        change wpOp _ _ _ _ _ (putL l [(0, 19, .pointer (some ⟨w.heap.size + 2, 0, none⟩)), (1, 20, .pointer (some ⟨w.heap.size + 2, 0, none⟩)), (2, 21, .int .i64 a0), (3, 22, .pointer (some ⟨w.heap.size + 2, 2, none⟩)), (4, 23, .pointer (some ⟨w.heap.size + 2, 2, none⟩)), (5, 24, .int .i64 a1), (6, 25, .int .i64 la), (7, 26, .pointer (some ⟨w.heap.size + 2, 0, none⟩)), (8, 27, .pointer (some ⟨w.heap.size + 2, 1, none⟩)), (9, 28, .int .i64 d0), (10, 29, .pointer (some ⟨w.heap.size + 2, 2, none⟩)), (11, 30, .pointer (some ⟨w.heap.size + 2, 3, none⟩)), (12, 31, .int .i64 d1), (13, 32, .int .i64 ld), (14, 33, .agg #[.int .i64 la, .int .i64 ld]), (15, 34, .pointer (some ⟨w.heap.size + 2, 0, none⟩)), (16, 35, .pointer (some ⟨w.heap.size + 2, 0, none⟩)), (17, 36, .int .i64 a0), (18, 37, .pointer (some ⟨w.heap.size + 2, 2, none⟩)), (19, 38, .pointer (some ⟨w.heap.size + 2, 2, none⟩)), (20, 39, .int .i64 a1), (21, 40, .int .i64 ha), (22, 41, .pointer (some ⟨w.heap.size + 2, 0, none⟩)), (23, 42, .pointer (some ⟨w.heap.size + 2, 1, none⟩)), (24, 43, .int .i64 d0), (25, 44, .pointer (some ⟨w.heap.size + 2, 2, none⟩)), (26, 45, .pointer (some ⟨w.heap.size + 2, 3, none⟩)), (27, 46, .int .i64 d1), (28, 47, .int .i64 hd), (29, 48, .agg #[.int .i64 ha, .int .i64 hd]), (30, 7, .pointer (some ⟨b0, 0, none⟩)), (31, 8, .pointer (some ⟨b1, 0, none⟩))] _) _
        rw [← hV]
        refine wpOp_of (by simp only [List.getElem?_toArray, List.getElem?_cons_succ, List.getElem?_cons_zero]; rfl) rfl ?_
        have gi : (l.setIfInBounds 31 true).getD 31 false = true := by simp [show 31 < l.size by omega]
        have hs33 : l.getD 33 false = false := by
          cases hc : l.getD 33 false with
          | false => rfl
          | true => have := d31 hc; rw [hnn] at this; cases this
        obtain ⟨V2, hV2⟩ : ∃ V2 : List (Nat × Nat × Value), V2 = [(0, 19, .pointer (some ⟨w.heap.size + 2, 0, none⟩)), (1, 20, .pointer (some ⟨w.heap.size + 2, 0, none⟩)), (2, 21, .int .i64 a0), (3, 22, .pointer (some ⟨w.heap.size + 2, 2, none⟩)), (4, 23, .pointer (some ⟨w.heap.size + 2, 2, none⟩)), (5, 24, .int .i64 a1), (6, 25, .int .i64 la), (7, 26, .pointer (some ⟨w.heap.size + 2, 0, none⟩)), (8, 27, .pointer (some ⟨w.heap.size + 2, 1, none⟩)), (9, 28, .int .i64 d0), (10, 29, .pointer (some ⟨w.heap.size + 2, 2, none⟩)), (11, 30, .pointer (some ⟨w.heap.size + 2, 3, none⟩)), (12, 31, .int .i64 d1), (13, 32, .int .i64 ld), (14, 33, .agg #[.int .i64 la, .int .i64 ld]), (15, 34, .pointer (some ⟨w.heap.size + 2, 0, none⟩)), (16, 35, .pointer (some ⟨w.heap.size + 2, 0, none⟩)), (17, 36, .int .i64 a0), (18, 37, .pointer (some ⟨w.heap.size + 2, 2, none⟩)), (19, 38, .pointer (some ⟨w.heap.size + 2, 2, none⟩)), (20, 39, .int .i64 a1), (21, 40, .int .i64 ha), (22, 41, .pointer (some ⟨w.heap.size + 2, 0, none⟩)), (23, 42, .pointer (some ⟨w.heap.size + 2, 1, none⟩)), (24, 43, .int .i64 d0), (25, 44, .pointer (some ⟨w.heap.size + 2, 2, none⟩)), (26, 45, .pointer (some ⟨w.heap.size + 2, 3, none⟩)), (27, 46, .int .i64 d1), (28, 47, .int .i64 hd), (29, 48, .agg #[.int .i64 ha, .int .i64 hd]), (30, 7, .pointer (some ⟨b0, 0, none⟩)), (31, 8, .pointer (some ⟨x.heap.size, 0, none⟩))] := ⟨_, rfl⟩
        have M1 : (V2.map (·.1)).Nodup := by rw [hV2]; show ([0, 1, 2, 3, 4, 5, 6, 7, 8, 9, 10, 11, 12, 13, 14, 15, 16, 17, 18, 19, 20, 21, 22, 23, 24, 25, 26, 27, 28, 29, 30, 31] : List Nat).Nodup; decide
        have M2 : (V2.map (·.2.1)).Nodup := by rw [hV2]; show ([19, 20, 21, 22, 23, 24, 25, 26, 27, 28, 29, 30, 31, 32, 33, 34, 35, 36, 37, 38, 39, 40, 41, 42, 43, 44, 45, 46, 47, 48, 7, 8] : List Nat).Nodup; decide
        have hcg : ∀ A : Act, putL l V2 A = putL l V A := fun A => by rw [hV2, hV]; exact putL_mid hnn _ [(0, 19, .pointer (some ⟨w.heap.size + 2, 0, none⟩)), (1, 20, .pointer (some ⟨w.heap.size + 2, 0, none⟩)), (2, 21, .int .i64 a0), (3, 22, .pointer (some ⟨w.heap.size + 2, 2, none⟩)), (4, 23, .pointer (some ⟨w.heap.size + 2, 2, none⟩)), (5, 24, .int .i64 a1), (6, 25, .int .i64 la), (7, 26, .pointer (some ⟨w.heap.size + 2, 0, none⟩)), (8, 27, .pointer (some ⟨w.heap.size + 2, 1, none⟩)), (9, 28, .int .i64 d0), (10, 29, .pointer (some ⟨w.heap.size + 2, 2, none⟩)), (11, 30, .pointer (some ⟨w.heap.size + 2, 3, none⟩)), (12, 31, .int .i64 d1), (13, 32, .int .i64 ld), (14, 33, .agg #[.int .i64 la, .int .i64 ld]), (15, 34, .pointer (some ⟨w.heap.size + 2, 0, none⟩)), (16, 35, .pointer (some ⟨w.heap.size + 2, 0, none⟩)), (17, 36, .int .i64 a0), (18, 37, .pointer (some ⟨w.heap.size + 2, 2, none⟩)), (19, 38, .pointer (some ⟨w.heap.size + 2, 2, none⟩)), (20, 39, .int .i64 a1), (21, 40, .int .i64 ha), (22, 41, .pointer (some ⟨w.heap.size + 2, 0, none⟩)), (23, 42, .pointer (some ⟨w.heap.size + 2, 1, none⟩)), (24, 43, .int .i64 d0), (25, 44, .pointer (some ⟨w.heap.size + 2, 2, none⟩)), (26, 45, .pointer (some ⟨w.heap.size + 2, 3, none⟩)), (27, 46, .int .i64 d1), (28, 47, .int .i64 hd), (29, 48, .agg #[.int .i64 ha, .int .i64 hd]), (30, 7, .pointer (some ⟨b0, 0, none⟩))] []
        refine wp_value (v := .pointer (some ⟨x.heap.size, 0, none⟩)) (w' := x.alloc (.cells #[.int .i64 0, .int .i64 0] 23)) ?_ ⟨(b0, x.heap.size), (show _ = putL (l.setIfInBounds 31 true) [(0, 19, .pointer (some ⟨w.heap.size + 2, 0, none⟩)), (1, 20, .pointer (some ⟨w.heap.size + 2, 0, none⟩)), (2, 21, .int .i64 a0), (3, 22, .pointer (some ⟨w.heap.size + 2, 2, none⟩)), (4, 23, .pointer (some ⟨w.heap.size + 2, 2, none⟩)), (5, 24, .int .i64 a1), (6, 25, .int .i64 la), (7, 26, .pointer (some ⟨w.heap.size + 2, 0, none⟩)), (8, 27, .pointer (some ⟨w.heap.size + 2, 1, none⟩)), (9, 28, .int .i64 d0), (10, 29, .pointer (some ⟨w.heap.size + 2, 2, none⟩)), (11, 30, .pointer (some ⟨w.heap.size + 2, 3, none⟩)), (12, 31, .int .i64 d1), (13, 32, .int .i64 ld), (14, 33, .agg #[.int .i64 la, .int .i64 ld]), (15, 34, .pointer (some ⟨w.heap.size + 2, 0, none⟩)), (16, 35, .pointer (some ⟨w.heap.size + 2, 0, none⟩)), (17, 36, .int .i64 a0), (18, 37, .pointer (some ⟨w.heap.size + 2, 2, none⟩)), (19, 38, .pointer (some ⟨w.heap.size + 2, 2, none⟩)), (20, 39, .int .i64 a1), (21, 40, .int .i64 ha), (22, 41, .pointer (some ⟨w.heap.size + 2, 0, none⟩)), (23, 42, .pointer (some ⟨w.heap.size + 2, 1, none⟩)), (24, 43, .int .i64 d0), (25, 44, .pointer (some ⟨w.heap.size + 2, 2, none⟩)), (26, 45, .pointer (some ⟨w.heap.size + 2, 3, none⟩)), (27, 46, .int .i64 d1), (28, 47, .int .i64 hd), (29, 48, .agg #[.int .i64 ha, .int .i64 hd]), (30, 7, .pointer (some ⟨b0, 0, none⟩)), (31, 8, .pointer (some ⟨x.heap.size, 0, none⟩))] _ by rw [← hV2, putL_set (by omega) hnn M1 M2 (by rw [hV2]; exact List.mem_of_getElem? (i := 31) rfl), hcg]), by simp [hl], hk.alloc _, ?_, ?_, ?_, ?_, ?_⟩
        · clear hV hV0 hV2
          simp only [execOp]
          first | (simp [go_sem]; done) | (simp [go_sem, *]; done)
        · intro q
          rw [g30] at q
          obtain ⟨q1, q2, q3⟩ := h30 q
          exact ⟨q1, fun z => OwnB.alloc (q2 (by rwa [g32] at z)) _, fun z => OwnB.alloc (q3 (by rwa [g32] at z)) _⟩
        · intro _
          refine ⟨hk.size, fun q => ?_, fun _ => own_alloc x [.int .i64 0, .int .i64 0] 23⟩
          rw [g33, hs33] at q; cases q
        · intro qa qb
          have qo : l.getD 30 false = true := by first | (rwa [g30] at qa) | (rwa [g30] at qb)
          obtain ⟨_, q2, q3⟩ := h30 qo
          have lt : b0 < x.heap.size := by
            cases hc : l.getD 32 false with
            | true => exact (q2 hc).1
            | false => exact (q3 hc).1
          (try simp only []); omega
        · simp only [g30, g32, g33]; assumption
        · intro _; exact gi
      · -- 32
        have ev7 : ∀ (A : Act), 7 < A.tmps.size → (putL l V A).eval (.tmp 7) = (.pointer (some ⟨b0, 0, none⟩)) := fun A h => putL_eval (i := 30) (ready_on hi (by kernel_rfl)) N2 (by rw [hV]; exact List.mem_of_getElem? (i := 30) rfl) h
        have ev33 : ∀ (A : Act), 33 < A.tmps.size → (putL l V A).eval (.tmp 33) = (.agg #[.int .i64 la, .int .i64 ld]) := fun A h => putL_eval (i := 14) (ready_on hi (by kernel_rfl)) N2 (by rw [hV]; exact List.mem_of_getElem? (i := 14) rfl) h
        have g30 : (l.setIfInBounds 32 true).getD 30 false = l.getD 30 false := getD_set_ne false (by decide)
        have g31 : (l.setIfInBounds 32 true).getD 31 false = l.getD 31 false := getD_set_ne false (by decide)
        have g33 : (l.setIfInBounds 32 true).getD 33 false = l.getD 33 false := getD_set_ne false (by decide)
        change wpOp _ _ _ _ _ (putL l [(0, 19, .pointer (some ⟨w.heap.size + 2, 0, none⟩)), (1, 20, .pointer (some ⟨w.heap.size + 2, 0, none⟩)), (2, 21, .int .i64 a0), (3, 22, .pointer (some ⟨w.heap.size + 2, 2, none⟩)), (4, 23, .pointer (some ⟨w.heap.size + 2, 2, none⟩)), (5, 24, .int .i64 a1), (6, 25, .int .i64 la), (7, 26, .pointer (some ⟨w.heap.size + 2, 0, none⟩)), (8, 27, .pointer (some ⟨w.heap.size + 2, 1, none⟩)), (9, 28, .int .i64 d0), (10, 29, .pointer (some ⟨w.heap.size + 2, 2, none⟩)), (11, 30, .pointer (some ⟨w.heap.size + 2, 3, none⟩)), (12, 31, .int .i64 d1), (13, 32, .int .i64 ld), (14, 33, .agg #[.int .i64 la, .int .i64 ld]), (15, 34, .pointer (some ⟨w.heap.size + 2, 0, none⟩)), (16, 35, .pointer (some ⟨w.heap.size + 2, 0, none⟩)), (17, 36, .int .i64 a0), (18, 37, .pointer (some ⟨w.heap.size + 2, 2, none⟩)), (19, 38, .pointer (some ⟨w.heap.size + 2, 2, none⟩)), (20, 39, .int .i64 a1), (21, 40, .int .i64 ha), (22, 41, .pointer (some ⟨w.heap.size + 2, 0, none⟩)), (23, 42, .pointer (some ⟨w.heap.size + 2, 1, none⟩)), (24, 43, .int .i64 d0), (25, 44, .pointer (some ⟨w.heap.size + 2, 2, none⟩)), (26, 45, .pointer (some ⟨w.heap.size + 2, 3, none⟩)), (27, 46, .int .i64 d1), (28, 47, .int .i64 hd), (29, 48, .agg #[.int .i64 ha, .int .i64 hd]), (30, 7, .pointer (some ⟨b0, 0, none⟩)), (31, 8, .pointer (some ⟨b1, 0, none⟩))] _) _
        rw [← hV]
        refine wpOp_of (by simp only [List.getElem?_toArray, List.getElem?_cons_succ, List.getElem?_cons_zero]; rfl) rfl ?_
        have gi : (l.setIfInBounds 32 true).getD 32 false = true := by simp [show 32 < l.size by omega]
        have hAL : l.getD 30 false = true := ready_on hi (by kernel_rfl)
        obtain ⟨q1, q2, q3⟩ := h30 hAL
        have OZ := q3 hnn
        refine wp_skip0 (w' := (x.setCell ⟨b0, 0, none⟩ (.int .i64 la)).setCell ⟨b0, 1, none⟩ (.int .i64 ld)) rfl ?_ ⟨(b0, b1), ((putL_out (l := l) (i := 32) (vs := V) (by rw [hV]; show 32 ∉ ([0, 1, 2, 3, 4, 5, 6, 7, 8, 9, 10, 11, 12, 13, 14, 15, 16, 17, 18, 19, 20, 21, 22, 23, 24, 25, 26, 27, 28, 29, 30, 31] : List Nat); decide)).symm.trans (by rw [hV0])), by simp [hl], (by repeat (first | with_reducible exact hk | with_reducible refine Kept.setCell ?_ q1 _)), ?_, ?_, ?_, ?_, ?_⟩
        · clear hV hV0
          simp only [execOp, Go.resolve, List.map_toArray, List.map_cons, List.map_nil]
          rw [ev7 _ (by first | rfl | decide | (simp; done))]
          rw [ev33 _ (by first | rfl | decide | (simp; done))]
          obtain ⟨oz, og, oc0, oc1, _⟩ := OZ
          first | (simp [go_sem, og, oc0, oc1]; done) | (simp [go_sem, *]; done)
        · intro _
          refine ⟨q1, fun _ => own_set2 (us := [.int .i64 0, .int .i64 0]) OZ rfl, fun z => ?_⟩
          rw [gi] at z; cases z
        · intro q
          rw [g31] at q
          obtain ⟨t1, t2, t3⟩ := h31 q
          have hne : b1 ≠ b0 := by
            first | exact e30_31 hAL q | exact (e30_31 q hAL) | exact (e30_31 hAL q).symm | exact (e30_31 q hAL).symm
          exact ⟨t1, fun z => OwnB.setOther (OwnB.setOther (t2 (by rwa [g33] at z)) hne) hne, fun z => OwnB.setOther (OwnB.setOther (t3 (by rwa [g33] at z)) hne) hne⟩
        · simp only [g30, g31, g33]; assumption
        · intro _; rw [g30]; exact hAL
        · simp only [g30, g31, g33]; assumption
      · -- 33
        have ev8 : ∀ (A : Act), 8 < A.tmps.size → (putL l V A).eval (.tmp 8) = (.pointer (some ⟨b1, 0, none⟩)) := fun A h => putL_eval (i := 31) (ready_on hi (by kernel_rfl)) N2 (by rw [hV]; exact List.mem_of_getElem? (i := 31) rfl) h
        have ev48 : ∀ (A : Act), 48 < A.tmps.size → (putL l V A).eval (.tmp 48) = (.agg #[.int .i64 ha, .int .i64 hd]) := fun A h => putL_eval (i := 29) (ready_on hi (by kernel_rfl)) N2 (by rw [hV]; exact List.mem_of_getElem? (i := 29) rfl) h
        have g30 : (l.setIfInBounds 33 true).getD 30 false = l.getD 30 false := getD_set_ne false (by decide)
        have g31 : (l.setIfInBounds 33 true).getD 31 false = l.getD 31 false := getD_set_ne false (by decide)
        have g32 : (l.setIfInBounds 33 true).getD 32 false = l.getD 32 false := getD_set_ne false (by decide)
        change wpOp _ _ _ _ _ (putL l [(0, 19, .pointer (some ⟨w.heap.size + 2, 0, none⟩)), (1, 20, .pointer (some ⟨w.heap.size + 2, 0, none⟩)), (2, 21, .int .i64 a0), (3, 22, .pointer (some ⟨w.heap.size + 2, 2, none⟩)), (4, 23, .pointer (some ⟨w.heap.size + 2, 2, none⟩)), (5, 24, .int .i64 a1), (6, 25, .int .i64 la), (7, 26, .pointer (some ⟨w.heap.size + 2, 0, none⟩)), (8, 27, .pointer (some ⟨w.heap.size + 2, 1, none⟩)), (9, 28, .int .i64 d0), (10, 29, .pointer (some ⟨w.heap.size + 2, 2, none⟩)), (11, 30, .pointer (some ⟨w.heap.size + 2, 3, none⟩)), (12, 31, .int .i64 d1), (13, 32, .int .i64 ld), (14, 33, .agg #[.int .i64 la, .int .i64 ld]), (15, 34, .pointer (some ⟨w.heap.size + 2, 0, none⟩)), (16, 35, .pointer (some ⟨w.heap.size + 2, 0, none⟩)), (17, 36, .int .i64 a0), (18, 37, .pointer (some ⟨w.heap.size + 2, 2, none⟩)), (19, 38, .pointer (some ⟨w.heap.size + 2, 2, none⟩)), (20, 39, .int .i64 a1), (21, 40, .int .i64 ha), (22, 41, .pointer (some ⟨w.heap.size + 2, 0, none⟩)), (23, 42, .pointer (some ⟨w.heap.size + 2, 1, none⟩)), (24, 43, .int .i64 d0), (25, 44, .pointer (some ⟨w.heap.size + 2, 2, none⟩)), (26, 45, .pointer (some ⟨w.heap.size + 2, 3, none⟩)), (27, 46, .int .i64 d1), (28, 47, .int .i64 hd), (29, 48, .agg #[.int .i64 ha, .int .i64 hd]), (30, 7, .pointer (some ⟨b0, 0, none⟩)), (31, 8, .pointer (some ⟨b1, 0, none⟩))] _) _
        rw [← hV]
        refine wpOp_of (by simp only [List.getElem?_toArray, List.getElem?_cons_succ, List.getElem?_cons_zero]; rfl) rfl ?_
        have gi : (l.setIfInBounds 33 true).getD 33 false = true := by simp [show 33 < l.size by omega]
        have hAL : l.getD 31 false = true := ready_on hi (by kernel_rfl)
        obtain ⟨q1, q2, q3⟩ := h31 hAL
        have OZ := q3 hnn
        refine wp_skip0 (w' := (x.setCell ⟨b1, 0, none⟩ (.int .i64 ha)).setCell ⟨b1, 1, none⟩ (.int .i64 hd)) rfl ?_ ⟨(b0, b1), ((putL_out (l := l) (i := 33) (vs := V) (by rw [hV]; show 33 ∉ ([0, 1, 2, 3, 4, 5, 6, 7, 8, 9, 10, 11, 12, 13, 14, 15, 16, 17, 18, 19, 20, 21, 22, 23, 24, 25, 26, 27, 28, 29, 30, 31] : List Nat); decide)).symm.trans (by rw [hV0])), by simp [hl], (by repeat (first | with_reducible exact hk | with_reducible refine Kept.setCell ?_ q1 _)), ?_, ?_, ?_, ?_, ?_⟩
        · clear hV hV0
          simp only [execOp, Go.resolve, List.map_toArray, List.map_cons, List.map_nil]
          rw [ev8 _ (by first | rfl | decide | (simp; done))]
          rw [ev48 _ (by first | rfl | decide | (simp; done))]
          obtain ⟨oz, og, oc0, oc1, _⟩ := OZ
          first | (simp [go_sem, og, oc0, oc1]; done) | (simp [go_sem, *]; done)
        · intro q
          rw [g30] at q
          obtain ⟨t1, t2, t3⟩ := h30 q
          have hne : b0 ≠ b1 := by
            first | exact e30_31 hAL q | exact (e30_31 q hAL) | exact (e30_31 hAL q).symm | exact (e30_31 q hAL).symm
          exact ⟨t1, fun z => OwnB.setOther (OwnB.setOther (t2 (by rwa [g32] at z)) hne) hne, fun z => OwnB.setOther (OwnB.setOther (t3 (by rwa [g32] at z)) hne) hne⟩
        · intro _
          refine ⟨q1, fun _ => own_set2 (us := [.int .i64 0, .int .i64 0]) OZ rfl, fun z => ?_⟩
          rw [gi] at z; cases z
        · simp only [g30, g31, g32]; assumption
        · simp only [g30, g31, g32]; assumption
        · intro _; rw [g31]; exact hAL
    · rintro ⟨b0, b1⟩ l x hr ⟨hl, hk, h30, h31, e30_31, d30, d31⟩
      have HL := all_listed hr (by rw [hl]; rfl) (acyc_of (by kernel_rfl)) 34
      have g0 := HL 0 (by omega) (by show 0 < 34; omega)
      have g1 := HL 1 (by omega) (by show 1 < 34; omega)
      have g2 := HL 2 (by omega) (by show 2 < 34; omega)
      have g3 := HL 3 (by omega) (by show 3 < 34; omega)
      have g4 := HL 4 (by omega) (by show 4 < 34; omega)
      have g5 := HL 5 (by omega) (by show 5 < 34; omega)
      have g6 := HL 6 (by omega) (by show 6 < 34; omega)
      have g7 := HL 7 (by omega) (by show 7 < 34; omega)
      have g8 := HL 8 (by omega) (by show 8 < 34; omega)
      have g9 := HL 9 (by omega) (by show 9 < 34; omega)
      have g10 := HL 10 (by omega) (by show 10 < 34; omega)
      have g11 := HL 11 (by omega) (by show 11 < 34; omega)
      have g12 := HL 12 (by omega) (by show 12 < 34; omega)
      have g13 := HL 13 (by omega) (by show 13 < 34; omega)
      have g14 := HL 14 (by omega) (by show 14 < 34; omega)
      have g15 := HL 15 (by omega) (by show 15 < 34; omega)
      have g16 := HL 16 (by omega) (by show 16 < 34; omega)
      have g17 := HL 17 (by omega) (by show 17 < 34; omega)
      have g18 := HL 18 (by omega) (by show 18 < 34; omega)
      have g19 := HL 19 (by omega) (by show 19 < 34; omega)
      have g20 := HL 20 (by omega) (by show 20 < 34; omega)
      have g21 := HL 21 (by omega) (by show 21 < 34; omega)
      have g22 := HL 22 (by omega) (by show 22 < 34; omega)
      have g23 := HL 23 (by omega) (by show 23 < 34; omega)
      have g24 := HL 24 (by omega) (by show 24 < 34; omega)
      have g25 := HL 25 (by omega) (by show 25 < 34; omega)
      have g26 := HL 26 (by omega) (by show 26 < 34; omega)
      have g27 := HL 27 (by omega) (by show 27 < 34; omega)
      have g28 := HL 28 (by omega) (by show 28 < 34; omega)
      have g29 := HL 29 (by omega) (by show 29 < 34; omega)
      have g30 := HL 30 (by omega) (by show 30 < 34; omega)
      have g31 := HL 31 (by omega) (by show 31 < 34; omega)
      have g32 := HL 32 (by omega) (by show 32 < 34; omega)
      have g33 := HL 33 (by omega) (by show 33 < 34; omega)
      obtain ⟨zl0, zo0, -⟩ := h30 g30
      have zp0 := zo0 g32
      obtain ⟨zl1, zo1, -⟩ := h31 g31
      have zp1 := zo1 g33
      have zn := e30_31 g30 g31
      clear HL hr h30 h31 e30_31 d30 d31
      simp only [putL, g0, g1, g2, g3, g4, g5, g6, g7, g8, g9, g10, g11, g12, g13, g14, g15, g16, g17, g18, g19, g20, g21, g22, g23, g24, g25, g26, g27, g28, g29, g30, g31, if_true]
      clear g0 g1 g2 g3 g4 g5 g6 g7 g8 g9 g10 g11 g12 g13 g14 g15 g16 g17 g18 g19 g20 g21 g22 g23 g24 g25 g26 g27 g28 g29 g30 g31 g32 g33
      have zb := HB0_2.out.1
      simp only [Act.put, List.setIfInBounds_toArray, List.set_cons_succ, List.set_cons_zero]
      refine hM_ _ _ (Met.intro (hR_ _ _ ?_))
      repeat apply Exists.intro
      refine ⟨?rel, rfl⟩
      case rel => exact ⟨b0, b1, rfl, rfl, by omega, by omega, Ne.symm zn, zp0, zp1, OwnB.kept hk HB0_0.out, OwnB.kept hk HB0_1.out, OwnB.kept hk HB0_2.out, hk⟩
  case rest =>
  obtain ⟨b1_0, b1_1, rfl, rfl, lt1_0, lt1_1, ne1_1_0, O1_0, O1_1, O1_2, O1_3, O1_4, hkc1⟩ := hcut
  obtain ⟨hz_c1_0, hg_c1_0, hf_c1_0_0, hf_c1_0_1, _⟩ := O1_0
  obtain ⟨hz_c1_1, hg_c1_1, hf_c1_1_0, hf_c1_1_1, _⟩ := O1_1
  obtain ⟨hz_c1_2, hg_c1_2, hf_c1_2_0, hf_c1_2_1, _⟩ := O1_2
  obtain ⟨hz_c1_3, hg_c1_3, hf_c1_3_0, hf_c1_3_1, _⟩ := O1_3
  obtain ⟨hz_c1_4, hg_c1_4, hf_c1_4_0, hf_c1_4_1, hf_c1_4_2, hf_c1_4_3, _⟩ := O1_4
  try clear hf1_0_0
  try clear hf1_0_1
  try clear hf1_1_0
  try clear hf1_1_1
  try clear hf1_2_0
  try clear hf1_2_1
  try clear hf1_2_2
  try clear hf1_2_3
  try clear hg1_0
  try clear hg1_1
  try clear hg1_2
  try clear hz1_1
  try clear hz1_2
  clear b4 b5 b6 b7
  have HO0_0 : Hid (OwnB wc (b1_0) [.int .i64 la, .int .i64 ld]) := Lib.hid ⟨hz_c1_0, hg_c1_0, hf_c1_0_0, hf_c1_0_1, trivial⟩
  have HO0_1 : Hid (OwnB wc (b1_1) [.int .i64 ha, .int .i64 hd]) := Lib.hid ⟨hz_c1_1, hg_c1_1, hf_c1_1_0, hf_c1_1_1, trivial⟩
  have HO0_2 : Hid (OwnB wc (w.heap.size) [.int .i64 v0, .int .i64 v1]) := Lib.hid ⟨hz_c1_2, hg_c1_2, hf_c1_2_0, hf_c1_2_1, trivial⟩
  have HO0_3 : Hid (OwnB wc (w.heap.size + 1) [.int .i64 m0, .int .i64 m1]) := Lib.hid ⟨hz_c1_3, hg_c1_3, hf_c1_3_0, hf_c1_3_1, trivial⟩
  have HO0_4 : Hid (OwnB wc (w.heap.size + 2) [.int .i64 a0, .int .i64 d0, .int .i64 a1, .int .i64 d1]) := Lib.hid ⟨hz_c1_4, hg_c1_4, hf_c1_4_0, hf_c1_4_1, hf_c1_4_2, hf_c1_4_3, trivial⟩
  have HK0 : Hid (Kept w wc) := Lib.hid (by repeat (first | with_reducible exact Kept.refl _ | with_reducible assumption | with_reducible refine Kept.setCell ?_ (by first | (simp; done) | (simp; omega) | omega) _ | with_reducible refine Kept.alloc ?_ _ | with_reducible refine Kept.drewN ?_ _ | with_reducible refine Kept.drew ?_ | with_reducible refine Kept.trans ?_ (by with_reducible assumption) | with_reducible refine Kept.dr ?_ (by with_reducible assumption)))
  have nw0 : w.heap.size ≤ b1_0 := by first | omega | (have := HK0.out.size; omega)
  have nb0_1 : ¬ b1_0 = b1_1 := by omega
  have nc0_1 : ¬ b1_1 = b1_0 := by omega
  have nw1 : w.heap.size ≤ b1_1 := by first | omega | (have := HK0.out.size; omega)
  have nb0_2 : ¬ b1_0 = w.heap.size := by omega
  have nc0_2 : ¬ w.heap.size = b1_0 := by omega
  have nb1_2 : ¬ b1_1 = w.heap.size := by omega
  have nc1_2 : ¬ w.heap.size = b1_1 := by omega
  have nw2 : w.heap.size ≤ w.heap.size := by first | omega | (have := HK0.out.size; omega)
  have nb0_3 : ¬ b1_0 = w.heap.size + 1 := by omega
  have nc0_3 : ¬ w.heap.size + 1 = b1_0 := by omega
  have nb1_3 : ¬ b1_1 = w.heap.size + 1 := by omega
  have nc1_3 : ¬ w.heap.size + 1 = b1_1 := by omega
  have nb2_3 : ¬ w.heap.size = w.heap.size + 1 := by omega
  have nc2_3 : ¬ w.heap.size + 1 = w.heap.size := by omega
  have nw3 : w.heap.size ≤ w.heap.size + 1 := by first | omega | (have := HK0.out.size; omega)
  have nb0_4 : ¬ b1_0 = w.heap.size + 2 := by omega
  have nc0_4 : ¬ w.heap.size + 2 = b1_0 := by omega
  have nb1_4 : ¬ b1_1 = w.heap.size + 2 := by omega
  have nc1_4 : ¬ w.heap.size + 2 = b1_1 := by omega
  have nb2_4 : ¬ w.heap.size = w.heap.size + 2 := by omega
  have nc2_4 : ¬ w.heap.size + 2 = w.heap.size := by omega
  have nb3_4 : ¬ w.heap.size + 1 = w.heap.size + 2 := by omega
  have nc3_4 : ¬ w.heap.size + 2 = w.heap.size + 1 := by omega
  have nw4 : w.heap.size ≤ w.heap.size + 2 := by first | omega | (have := HK0.out.size; omega)
  try clear hk1
  try clear hz1_0
  try clear hn1_0
  try clear hm1_0
  try clear hg1_0
  try clear hf1_0_0
  try clear hf1_0_1
  try clear hf1_0_2
  try clear hf1_0_3
  try clear hf1_0_4
  try clear hf1_0_5
  try clear hf1_0_6
  try clear hf1_0_7
  try clear hf1_0_8
  try clear hf1_0_9
  try clear hf1_0_10
  try clear hf1_0_11
  try clear hz1_1
  try clear hn1_1
  try clear hm1_1
  try clear hg1_1
  try clear hf1_1_0
  try clear hf1_1_1
  try clear hf1_1_2
  try clear hf1_1_3
  try clear hf1_1_4
  try clear hf1_1_5
  try clear hf1_1_6
  try clear hf1_1_7
  try clear hf1_1_8
  try clear hf1_1_9
  try clear hf1_1_10
  try clear hf1_1_11
  try clear hz1_2
  try clear hn1_2
  try clear hm1_2
  try clear hg1_2
  try clear hf1_2_0
  try clear hf1_2_1
  try clear hf1_2_2
  try clear hf1_2_3
  try clear hf1_2_4
  try clear hf1_2_5
  try clear hf1_2_6
  try clear hf1_2_7
  try clear hf1_2_8
  try clear hf1_2_9
  try clear hf1_2_10
  try clear hf1_2_11
  try clear hz1_3
  try clear hn1_3
  try clear hm1_3
  try clear hg1_3
  try clear hf1_3_0
  try clear hf1_3_1
  try clear hf1_3_2
  try clear hf1_3_3
  try clear hf1_3_4
  try clear hf1_3_5
  try clear hf1_3_6
  try clear hf1_3_7
  try clear hf1_3_8
  try clear hf1_3_9
  try clear hf1_3_10
  try clear hf1_3_11
  try clear hz1_4
  try clear hn1_4
  try clear hm1_4
  try clear hg1_4
  try clear hf1_4_0
  try clear hf1_4_1
  try clear hf1_4_2
  try clear hf1_4_3
  try clear hf1_4_4
  try clear hf1_4_5
  try clear hf1_4_6
  try clear hf1_4_7
  try clear hf1_4_8
  try clear hf1_4_9
  try clear hf1_4_10
  try clear hf1_4_11
  by_cases z : hE A M la ld = 0
  · by_cases y : hE B N la hd = 0
    · obtain ⟨A0, A1, M0, M1, h⟩ := hE_e0 z
      obtain ⟨B0, B1, N0, N1, k⟩ := hE_e0 y
      have t1 := tas_mono A0 oA B1 h k (Int.le_refl _) od
      have t2 := o_mono M0 oM N1 h k od
      have s1 := (hV_ok A0 A1 M0 M1 h).2
      have s2 := (hV_ok B0 B1 N0 N1 k).2
      have s3 : hV A M la ld ≤ hV B N la hd := by rw [s1, s2]; omega
      have s4 : hV A M la ld ≤ tV A la ld := by rw [s1]; omega
      rw [z] at H1
      rw [y] at H2
      have H3 := Lib.hid (fun W (k : Kept w W) => tas_ok A la ld A0 A1 h W (Lib.hid (tab_kept ht.out.1 k)))
      have H4 := Lib.hid (fun W (k : Kept w W) => tas_w B ha hd W (Lib.hid (tab_kept ht.out.1 k)))
      by_cases x : tE B ha hd = 0
      · obtain ⟨_, _, j⟩ := tas_e0 x
        have s5 := tas_mono A0 oA B1 h j oa od
        rw [x] at H4
        clear x j
        obtain ⟨S, qS⟩ : ∃ x, hV A M la ld = x := ⟨_, rfl⟩
        obtain ⟨T, qT⟩ : ∃ x, hV B N la hd = x := ⟨_, rfl⟩
        obtain ⟨C, qC⟩ : ∃ x, tV A la ld = x := ⟨_, rfl⟩
        obtain ⟨D, qD⟩ : ∃ x, tV B ha hd = x := ⟨_, rfl⟩
        rw [qS] at H1 s3 s4
        rw [qT] at H2 s3
        rw [qC] at H3 s4 s5
        rw [qD] at H4 s5
        clear qS qT qC qD s1 s2 t1 t2 z y h k oA oM oa od
        obtain ⟨oz0, og0, of0_0, of0_1, _⟩ := HO0_0.out
        obtain ⟨oz1, og1, of1_0, of1_1, _⟩ := HO0_1.out
        obtain ⟨oz2, og2, of2_0, of2_1, _⟩ := HO0_2.out
        obtain ⟨oz3, og3, of3_0, of3_1, _⟩ := HO0_3.out
        obtain ⟨oz4, og4, of4_0, of4_1, of4_2, of4_3, _⟩ := HO0_4.out
        go_wp2_with fail
        try clear oz0 og0 of0_0 of0_1 oz1 og1 of1_0 of1_1 oz2 og2 of2_0 of2_1 oz3 og3 of3_0 of3_1 oz4 og4 of4_0 of4_1 of4_2 of4_3
        refine (H1.out _ HK0.out).mono ?_
        rintro e w4 ⟨rfl, hk⟩
        have HO1_0 : Hid (OwnB w4 (b1_0) [.int .i64 la, .int .i64 ld]) := Lib.hid (OwnB.kept hk (by repeat (first | with_reducible exact HO0_0.out | with_reducible refine OwnB.setOther ?_ (by first | with_reducible assumption | omega) | with_reducible refine OwnB.drew ?_ | with_reducible refine OwnB.drewN ?_ _ | with_reducible refine OwnB.alloc ?_ _ | with_reducible refine OwnB.kept (by with_reducible assumption) ?_)))
        have HO1_1 : Hid (OwnB w4 (b1_1) [.int .i64 ha, .int .i64 hd]) := Lib.hid (OwnB.kept hk (by repeat (first | with_reducible exact HO0_1.out | with_reducible refine OwnB.setOther ?_ (by first | with_reducible assumption | omega) | with_reducible refine OwnB.drew ?_ | with_reducible refine OwnB.drewN ?_ _ | with_reducible refine OwnB.alloc ?_ _ | with_reducible refine OwnB.kept (by with_reducible assumption) ?_)))
        have HO1_2 : Hid (OwnB w4 (w.heap.size) [.int .i64 v0, .int .i64 v1]) := Lib.hid (OwnB.kept hk (by repeat (first | with_reducible exact HO0_2.out | with_reducible refine OwnB.setOther ?_ (by first | with_reducible assumption | omega) | with_reducible refine OwnB.drew ?_ | with_reducible refine OwnB.drewN ?_ _ | with_reducible refine OwnB.alloc ?_ _ | with_reducible refine OwnB.kept (by with_reducible assumption) ?_)))
        have HO1_3 : Hid (OwnB w4 (w.heap.size + 1) [.int .i64 m0, .int .i64 m1]) := Lib.hid (OwnB.kept hk (by repeat (first | with_reducible exact HO0_3.out | with_reducible refine OwnB.setOther ?_ (by first | with_reducible assumption | omega) | with_reducible refine OwnB.drew ?_ | with_reducible refine OwnB.drewN ?_ _ | with_reducible refine OwnB.alloc ?_ _ | with_reducible refine OwnB.kept (by with_reducible assumption) ?_)))
        have HO1_4 : Hid (OwnB w4 (w.heap.size + 2) [.int .i64 a0, .int .i64 d0, .int .i64 a1, .int .i64 d1]) := Lib.hid (OwnB.kept hk (by repeat (first | with_reducible exact HO0_4.out | with_reducible refine OwnB.setOther ?_ (by first | with_reducible assumption | omega) | with_reducible refine OwnB.drew ?_ | with_reducible refine OwnB.drewN ?_ _ | with_reducible refine OwnB.alloc ?_ _ | with_reducible refine OwnB.kept (by with_reducible assumption) ?_)))
        have HK1 : Hid (Kept w w4) := Lib.hid (Kept.trans (by repeat (first | with_reducible exact HK0.out | with_reducible refine Kept.setCell ?_ (by first | with_reducible assumption | omega) _ | with_reducible refine Kept.drew ?_ | with_reducible refine Kept.drewN ?_ _ | with_reducible refine Kept.alloc ?_ _ | with_reducible refine Kept.trans ?_ (by with_reducible assumption))) hk)
        clear hk HO0_0 HO0_1 HO0_2 HO0_3 HO0_4 HK0
        obtain ⟨oz0, og0, of0_0, of0_1, _⟩ := HO1_0.out
        obtain ⟨oz1, og1, of1_0, of1_1, _⟩ := HO1_1.out
        obtain ⟨oz2, og2, of2_0, of2_1, _⟩ := HO1_2.out
        obtain ⟨oz3, og3, of3_0, of3_1, _⟩ := HO1_3.out
        obtain ⟨oz4, og4, of4_0, of4_1, of4_2, of4_3, _⟩ := HO1_4.out
        go_wp2_with fail
        try clear oz0 og0 of0_0 of0_1 oz1 og1 of1_0 of1_1 oz2 og2 of2_0 of2_1 oz3 og3 of3_0 of3_1 oz4 og4 of4_0 of4_1 of4_2 of4_3
        refine (H2.out _ HK1.out).mono ?_
        rintro e w5 ⟨rfl, hk⟩
        have HO2_0 : Hid (OwnB w5 (b1_0) [.int .i64 la, .int .i64 ld]) := Lib.hid (OwnB.kept hk (by repeat (first | with_reducible exact HO1_0.out | with_reducible refine OwnB.setOther ?_ (by first | with_reducible assumption | omega) | with_reducible refine OwnB.drew ?_ | with_reducible refine OwnB.drewN ?_ _ | with_reducible refine OwnB.alloc ?_ _ | with_reducible refine OwnB.kept (by with_reducible assumption) ?_)))
        have HO2_1 : Hid (OwnB w5 (b1_1) [.int .i64 ha, .int .i64 hd]) := Lib.hid (OwnB.kept hk (by repeat (first | with_reducible exact HO1_1.out | with_reducible refine OwnB.setOther ?_ (by first | with_reducible assumption | omega) | with_reducible refine OwnB.drew ?_ | with_reducible refine OwnB.drewN ?_ _ | with_reducible refine OwnB.alloc ?_ _ | with_reducible refine OwnB.kept (by with_reducible assumption) ?_)))
        have HO2_2 : Hid (OwnB w5 (w.heap.size) [.int .i64 v0, .int .i64 v1]) := Lib.hid (OwnB.kept hk (by repeat (first | with_reducible exact HO1_2.out | with_reducible refine OwnB.setOther ?_ (by first | with_reducible assumption | omega) | with_reducible refine OwnB.drew ?_ | with_reducible refine OwnB.drewN ?_ _ | with_reducible refine OwnB.alloc ?_ _ | with_reducible refine OwnB.kept (by with_reducible assumption) ?_)))
        have HO2_3 : Hid (OwnB w5 (w.heap.size + 1) [.int .i64 m0, .int .i64 m1]) := Lib.hid (OwnB.kept hk (by repeat (first | with_reducible exact HO1_3.out | with_reducible refine OwnB.setOther ?_ (by first | with_reducible assumption | omega) | with_reducible refine OwnB.drew ?_ | with_reducible refine OwnB.drewN ?_ _ | with_reducible refine OwnB.alloc ?_ _ | with_reducible refine OwnB.kept (by with_reducible assumption) ?_)))
        have HO2_4 : Hid (OwnB w5 (w.heap.size + 2) [.int .i64 a0, .int .i64 d0, .int .i64 a1, .int .i64 d1]) := Lib.hid (OwnB.kept hk (by repeat (first | with_reducible exact HO1_4.out | with_reducible refine OwnB.setOther ?_ (by first | with_reducible assumption | omega) | with_reducible refine OwnB.drew ?_ | with_reducible refine OwnB.drewN ?_ _ | with_reducible refine OwnB.alloc ?_ _ | with_reducible refine OwnB.kept (by with_reducible assumption) ?_)))
        have HK2 : Hid (Kept w w5) := Lib.hid (Kept.trans (by repeat (first | with_reducible exact HK1.out | with_reducible refine Kept.setCell ?_ (by first | with_reducible assumption | omega) _ | with_reducible refine Kept.drew ?_ | with_reducible refine Kept.drewN ?_ _ | with_reducible refine Kept.alloc ?_ _ | with_reducible refine Kept.trans ?_ (by with_reducible assumption))) hk)
        clear hk HO1_0 HO1_1 HO1_2 HO1_3 HO1_4 HK1
        obtain ⟨oz0, og0, of0_0, of0_1, _⟩ := HO2_0.out
        obtain ⟨oz1, og1, of1_0, of1_1, _⟩ := HO2_1.out
        obtain ⟨oz2, og2, of2_0, of2_1, _⟩ := HO2_2.out
        obtain ⟨oz3, og3, of3_0, of3_1, _⟩ := HO2_3.out
        obtain ⟨oz4, og4, of4_0, of4_1, of4_2, of4_3, _⟩ := HO2_4.out
        go_wp2_with fail
        try clear oz0 og0 of0_0 of0_1 oz1 og1 of1_0 of1_1 oz2 og2 of2_0 of2_1 oz3 og3 of3_0 of3_1 oz4 og4 of4_0 of4_1 of4_2 of4_3
        refine (H3.out _ HK2.out).mono ?_
        rintro e w6 ⟨rfl, hk⟩
        have HO3_0 : Hid (OwnB w6 (b1_0) [.int .i64 la, .int .i64 ld]) := Lib.hid (OwnB.kept hk (by repeat (first | with_reducible exact HO2_0.out | with_reducible refine OwnB.setOther ?_ (by first | with_reducible assumption | omega) | with_reducible refine OwnB.drew ?_ | with_reducible refine OwnB.drewN ?_ _ | with_reducible refine OwnB.alloc ?_ _ | with_reducible refine OwnB.kept (by with_reducible assumption) ?_)))
        have HO3_1 : Hid (OwnB w6 (b1_1) [.int .i64 ha, .int .i64 hd]) := Lib.hid (OwnB.kept hk (by repeat (first | with_reducible exact HO2_1.out | with_reducible refine OwnB.setOther ?_ (by first | with_reducible assumption | omega) | with_reducible refine OwnB.drew ?_ | with_reducible refine OwnB.drewN ?_ _ | with_reducible refine OwnB.alloc ?_ _ | with_reducible refine OwnB.kept (by with_reducible assumption) ?_)))
        have HO3_2 : Hid (OwnB w6 (w.heap.size) [.int .i64 v0, .int .i64 v1]) := Lib.hid (OwnB.kept hk (by repeat (first | with_reducible exact HO2_2.out | with_reducible refine OwnB.setOther ?_ (by first | with_reducible assumption | omega) | with_reducible refine OwnB.drew ?_ | with_reducible refine OwnB.drewN ?_ _ | with_reducible refine OwnB.alloc ?_ _ | with_reducible refine OwnB.kept (by with_reducible assumption) ?_)))
        have HO3_3 : Hid (OwnB w6 (w.heap.size + 1) [.int .i64 m0, .int .i64 m1]) := Lib.hid (OwnB.kept hk (by repeat (first | with_reducible exact HO2_3.out | with_reducible refine OwnB.setOther ?_ (by first | with_reducible assumption | omega) | with_reducible refine OwnB.drew ?_ | with_reducible refine OwnB.drewN ?_ _ | with_reducible refine OwnB.alloc ?_ _ | with_reducible refine OwnB.kept (by with_reducible assumption) ?_)))
        have HO3_4 : Hid (OwnB w6 (w.heap.size + 2) [.int .i64 a0, .int .i64 d0, .int .i64 a1, .int .i64 d1]) := Lib.hid (OwnB.kept hk (by repeat (first | with_reducible exact HO2_4.out | with_reducible refine OwnB.setOther ?_ (by first | with_reducible assumption | omega) | with_reducible refine OwnB.drew ?_ | with_reducible refine OwnB.drewN ?_ _ | with_reducible refine OwnB.alloc ?_ _ | with_reducible refine OwnB.kept (by with_reducible assumption) ?_)))
        have HK3 : Hid (Kept w w6) := Lib.hid (Kept.trans (by repeat (first | with_reducible exact HK2.out | with_reducible refine Kept.setCell ?_ (by first | with_reducible assumption | omega) _ | with_reducible refine Kept.drew ?_ | with_reducible refine Kept.drewN ?_ _ | with_reducible refine Kept.alloc ?_ _ | with_reducible refine Kept.trans ?_ (by with_reducible assumption))) hk)
        clear hk HO2_0 HO2_1 HO2_2 HO2_3 HO2_4 HK2
        obtain ⟨oz0, og0, of0_0, of0_1, _⟩ := HO3_0.out
        obtain ⟨oz1, og1, of1_0, of1_1, _⟩ := HO3_1.out
        obtain ⟨oz2, og2, of2_0, of2_1, _⟩ := HO3_2.out
        obtain ⟨oz3, og3, of3_0, of3_1, _⟩ := HO3_3.out
        obtain ⟨oz4, og4, of4_0, of4_1, of4_2, of4_3, _⟩ := HO3_4.out
        go_wp2_with fail
        try clear oz0 og0 of0_0 of0_1 oz1 og1 of1_0 of1_1 oz2 og2 of2_0 of2_1 oz3 og3 of3_0 of3_1 oz4 og4 of4_0 of4_1 of4_2 of4_3
        refine (H4.out _ HK3.out).mono ?_
        rintro e w7 ⟨rfl, hk⟩
        have HO4_0 : Hid (OwnB w7 (b1_0) [.int .i64 la, .int .i64 ld]) := Lib.hid (OwnB.kept hk (by repeat (first | with_reducible exact HO3_0.out | with_reducible refine OwnB.setOther ?_ (by first | with_reducible assumption | omega) | with_reducible refine OwnB.drew ?_ | with_reducible refine OwnB.drewN ?_ _ | with_reducible refine OwnB.alloc ?_ _ | with_reducible refine OwnB.kept (by with_reducible assumption) ?_)))
        have HO4_1 : Hid (OwnB w7 (b1_1) [.int .i64 ha, .int .i64 hd]) := Lib.hid (OwnB.kept hk (by repeat (first | with_reducible exact HO3_1.out | with_reducible refine OwnB.setOther ?_ (by first | with_reducible assumption | omega) | with_reducible refine OwnB.drew ?_ | with_reducible refine OwnB.drewN ?_ _ | with_reducible refine OwnB.alloc ?_ _ | with_reducible refine OwnB.kept (by with_reducible assumption) ?_)))
        have HO4_2 : Hid (OwnB w7 (w.heap.size) [.int .i64 v0, .int .i64 v1]) := Lib.hid (OwnB.kept hk (by repeat (first | with_reducible exact HO3_2.out | with_reducible refine OwnB.setOther ?_ (by first | with_reducible assumption | omega) | with_reducible refine OwnB.drew ?_ | with_reducible refine OwnB.drewN ?_ _ | with_reducible refine OwnB.alloc ?_ _ | with_reducible refine OwnB.kept (by with_reducible assumption) ?_)))
        have HO4_3 : Hid (OwnB w7 (w.heap.size + 1) [.int .i64 m0, .int .i64 m1]) := Lib.hid (OwnB.kept hk (by repeat (first | with_reducible exact HO3_3.out | with_reducible refine OwnB.setOther ?_ (by first | with_reducible assumption | omega) | with_reducible refine OwnB.drew ?_ | with_reducible refine OwnB.drewN ?_ _ | with_reducible refine OwnB.alloc ?_ _ | with_reducible refine OwnB.kept (by with_reducible assumption) ?_)))
        have HO4_4 : Hid (OwnB w7 (w.heap.size + 2) [.int .i64 a0, .int .i64 d0, .int .i64 a1, .int .i64 d1]) := Lib.hid (OwnB.kept hk (by repeat (first | with_reducible exact HO3_4.out | with_reducible refine OwnB.setOther ?_ (by first | with_reducible assumption | omega) | with_reducible refine OwnB.drew ?_ | with_reducible refine OwnB.drewN ?_ _ | with_reducible refine OwnB.alloc ?_ _ | with_reducible refine OwnB.kept (by with_reducible assumption) ?_)))
        have HK4 : Hid (Kept w w7) := Lib.hid (Kept.trans (by repeat (first | with_reducible exact HK3.out | with_reducible refine Kept.setCell ?_ (by first | with_reducible assumption | omega) _ | with_reducible refine Kept.drew ?_ | with_reducible refine Kept.drewN ?_ _ | with_reducible refine Kept.alloc ?_ _ | with_reducible refine Kept.trans ?_ (by with_reducible assumption))) hk)
        clear hk HO3_0 HO3_1 HO3_2 HO3_3 HO3_4 HK3
        obtain ⟨oz0, og0, of0_0, of0_1, _⟩ := HO4_0.out
        obtain ⟨oz1, og1, of1_0, of1_1, _⟩ := HO4_1.out
        obtain ⟨oz2, og2, of2_0, of2_1, _⟩ := HO4_2.out
        obtain ⟨oz3, og3, of3_0, of3_1, _⟩ := HO4_3.out
        obtain ⟨oz4, og4, of4_0, of4_1, of4_2, of4_3, _⟩ := HO4_4.out
        go_wp2_with fail
        try clear oz0 og0 of0_0 of0_1 oz1 og1 of1_0 of1_1 oz2 og2 of2_0 of2_1 oz3 og3 of3_0 of3_1 oz4 og4 of4_0 of4_1 of4_2 of4_3
        all_goals go_ret
        all_goals first | exact ⟨rfl, HK4.out⟩ | (refine ⟨?_, HK4.out⟩; simp; omega) | (refine ⟨?_, HK4.out⟩; simp [*]; done)
      · obtain ⟨E, qE⟩ : ∃ x, tE B ha hd = x := ⟨_, rfl⟩
        rw [qE] at H4 x
        clear qE
        obtain ⟨S, qS⟩ : ∃ x, hV A M la ld = x := ⟨_, rfl⟩
        obtain ⟨T, qT⟩ : ∃ x, hV B N la hd = x := ⟨_, rfl⟩
        obtain ⟨C, qC⟩ : ∃ x, tV A la ld = x := ⟨_, rfl⟩
        obtain ⟨D, qD⟩ : ∃ x, tV B ha hd = x := ⟨_, rfl⟩
        rw [qS] at H1 s3 s4
        rw [qT] at H2 s3
        rw [qC] at H3 s4
        rw [qD] at H4
        clear qS qT qC qD s1 s2 t1 t2 z y h k oA oM oa od
        obtain ⟨oz0, og0, of0_0, of0_1, _⟩ := HO0_0.out
        obtain ⟨oz1, og1, of1_0, of1_1, _⟩ := HO0_1.out
        obtain ⟨oz2, og2, of2_0, of2_1, _⟩ := HO0_2.out
        obtain ⟨oz3, og3, of3_0, of3_1, _⟩ := HO0_3.out
        obtain ⟨oz4, og4, of4_0, of4_1, of4_2, of4_3, _⟩ := HO0_4.out
        go_wp2_with fail
        try clear oz0 og0 of0_0 of0_1 oz1 og1 of1_0 of1_1 oz2 og2 of2_0 of2_1 oz3 og3 of3_0 of3_1 oz4 og4 of4_0 of4_1 of4_2 of4_3
        refine (H1.out _ HK0.out).mono ?_
        rintro e w4 ⟨rfl, hk⟩
        have HO1_0 : Hid (OwnB w4 (b1_0) [.int .i64 la, .int .i64 ld]) := Lib.hid (OwnB.kept hk (by repeat (first | with_reducible exact HO0_0.out | with_reducible refine OwnB.setOther ?_ (by first | with_reducible assumption | omega) | with_reducible refine OwnB.drew ?_ | with_reducible refine OwnB.drewN ?_ _ | with_reducible refine OwnB.alloc ?_ _ | with_reducible refine OwnB.kept (by with_reducible assumption) ?_)))
        have HO1_1 : Hid (OwnB w4 (b1_1) [.int .i64 ha, .int .i64 hd]) := Lib.hid (OwnB.kept hk (by repeat (first | with_reducible exact HO0_1.out | with_reducible refine OwnB.setOther ?_ (by first | with_reducible assumption | omega) | with_reducible refine OwnB.drew ?_ | with_reducible refine OwnB.drewN ?_ _ | with_reducible refine OwnB.alloc ?_ _ | with_reducible refine OwnB.kept (by with_reducible assumption) ?_)))
        have HO1_2 : Hid (OwnB w4 (w.heap.size) [.int .i64 v0, .int .i64 v1]) := Lib.hid (OwnB.kept hk (by repeat (first | with_reducible exact HO0_2.out | with_reducible refine OwnB.setOther ?_ (by first | with_reducible assumption | omega) | with_reducible refine OwnB.drew ?_ | with_reducible refine OwnB.drewN ?_ _ | with_reducible refine OwnB.alloc ?_ _ | with_reducible refine OwnB.kept (by with_reducible assumption) ?_)))
        have HO1_3 : Hid (OwnB w4 (w.heap.size + 1) [.int .i64 m0, .int .i64 m1]) := Lib.hid (OwnB.kept hk (by repeat (first | with_reducible exact HO0_3.out | with_reducible refine OwnB.setOther ?_ (by first | with_reducible assumption | omega) | with_reducible refine OwnB.drew ?_ | with_reducible refine OwnB.drewN ?_ _ | with_reducible refine OwnB.alloc ?_ _ | with_reducible refine OwnB.kept (by with_reducible assumption) ?_)))
        have HO1_4 : Hid (OwnB w4 (w.heap.size + 2) [.int .i64 a0, .int .i64 d0, .int .i64 a1, .int .i64 d1]) := Lib.hid (OwnB.kept hk (by repeat (first | with_reducible exact HO0_4.out | with_reducible refine OwnB.setOther ?_ (by first | with_reducible assumption | omega) | with_reducible refine OwnB.drew ?_ | with_reducible refine OwnB.drewN ?_ _ | with_reducible refine OwnB.alloc ?_ _ | with_reducible refine OwnB.kept (by with_reducible assumption) ?_)))
        have HK1 : Hid (Kept w w4) := Lib.hid (Kept.trans (by repeat (first | with_reducible exact HK0.out | with_reducible refine Kept.setCell ?_ (by first | with_reducible assumption | omega) _ | with_reducible refine Kept.drew ?_ | with_reducible refine Kept.drewN ?_ _ | with_reducible refine Kept.alloc ?_ _ | with_reducible refine Kept.trans ?_ (by with_reducible assumption))) hk)
        clear hk HO0_0 HO0_1 HO0_2 HO0_3 HO0_4 HK0
        obtain ⟨oz0, og0, of0_0, of0_1, _⟩ := HO1_0.out
        obtain ⟨oz1, og1, of1_0, of1_1, _⟩ := HO1_1.out
        obtain ⟨oz2, og2, of2_0, of2_1, _⟩ := HO1_2.out
        obtain ⟨oz3, og3, of3_0, of3_1, _⟩ := HO1_3.out
        obtain ⟨oz4, og4, of4_0, of4_1, of4_2, of4_3, _⟩ := HO1_4.out
        go_wp2_with fail
        try clear oz0 og0 of0_0 of0_1 oz1 og1 of1_0 of1_1 oz2 og2 of2_0 of2_1 oz3 og3 of3_0 of3_1 oz4 og4 of4_0 of4_1 of4_2 of4_3
        refine (H2.out _ HK1.out).mono ?_
        rintro e w5 ⟨rfl, hk⟩
        have HO2_0 : Hid (OwnB w5 (b1_0) [.int .i64 la, .int .i64 ld]) := Lib.hid (OwnB.kept hk (by repeat (first | with_reducible exact HO1_0.out | with_reducible refine OwnB.setOther ?_ (by first | with_reducible assumption | omega) | with_reducible refine OwnB.drew ?_ | with_reducible refine OwnB.drewN ?_ _ | with_reducible refine OwnB.alloc ?_ _ | with_reducible refine OwnB.kept (by with_reducible assumption) ?_)))
        have HO2_1 : Hid (OwnB w5 (b1_1) [.int .i64 ha, .int .i64 hd]) := Lib.hid (OwnB.kept hk (by repeat (first | with_reducible exact HO1_1.out | with_reducible refine OwnB.setOther ?_ (by first | with_reducible assumption | omega) | with_reducible refine OwnB.drew ?_ | with_reducible refine OwnB.drewN ?_ _ | with_reducible refine OwnB.alloc ?_ _ | with_reducible refine OwnB.kept (by with_reducible assumption) ?_)))
        have HO2_2 : Hid (OwnB w5 (w.heap.size) [.int .i64 v0, .int .i64 v1]) := Lib.hid (OwnB.kept hk (by repeat (first | with_reducible exact HO1_2.out | with_reducible refine OwnB.setOther ?_ (by first | with_reducible assumption | omega) | with_reducible refine OwnB.drew ?_ | with_reducible refine OwnB.drewN ?_ _ | with_reducible refine OwnB.alloc ?_ _ | with_reducible refine OwnB.kept (by with_reducible assumption) ?_)))
        have HO2_3 : Hid (OwnB w5 (w.heap.size + 1) [.int .i64 m0, .int .i64 m1]) := Lib.hid (OwnB.kept hk (by repeat (first | with_reducible exact HO1_3.out | with_reducible refine OwnB.setOther ?_ (by first | with_reducible assumption | omega) | with_reducible refine OwnB.drew ?_ | with_reducible refine OwnB.drewN ?_ _ | with_reducible refine OwnB.alloc ?_ _ | with_reducible refine OwnB.kept (by with_reducible assumption) ?_)))
        have HO2_4 : Hid (OwnB w5 (w.heap.size + 2) [.int .i64 a0, .int .i64 d0, .int .i64 a1, .int .i64 d1]) := Lib.hid (OwnB.kept hk (by repeat (first | with_reducible exact HO1_4.out | with_reducible refine OwnB.setOther ?_ (by first | with_reducible assumption | omega) | with_reducible refine OwnB.drew ?_ | with_reducible refine OwnB.drewN ?_ _ | with_reducible refine OwnB.alloc ?_ _ | with_reducible refine OwnB.kept (by with_reducible assumption) ?_)))
        have HK2 : Hid (Kept w w5) := Lib.hid (Kept.trans (by repeat (first | with_reducible exact HK1.out | with_reducible refine Kept.setCell ?_ (by first | with_reducible assumption | omega) _ | with_reducible refine Kept.drew ?_ | with_reducible refine Kept.drewN ?_ _ | with_reducible refine Kept.alloc ?_ _ | with_reducible refine Kept.trans ?_ (by with_reducible assumption))) hk)
        clear hk HO1_0 HO1_1 HO1_2 HO1_3 HO1_4 HK1
        obtain ⟨oz0, og0, of0_0, of0_1, _⟩ := HO2_0.out
        obtain ⟨oz1, og1, of1_0, of1_1, _⟩ := HO2_1.out
        obtain ⟨oz2, og2, of2_0, of2_1, _⟩ := HO2_2.out
        obtain ⟨oz3, og3, of3_0, of3_1, _⟩ := HO2_3.out
        obtain ⟨oz4, og4, of4_0, of4_1, of4_2, of4_3, _⟩ := HO2_4.out
        go_wp2_with fail
        try clear oz0 og0 of0_0 of0_1 oz1 og1 of1_0 of1_1 oz2 og2 of2_0 of2_1 oz3 og3 of3_0 of3_1 oz4 og4 of4_0 of4_1 of4_2 of4_3
        refine (H3.out _ HK2.out).mono ?_
        rintro e w6 ⟨rfl, hk⟩
        have HO3_0 : Hid (OwnB w6 (b1_0) [.int .i64 la, .int .i64 ld]) := Lib.hid (OwnB.kept hk (by repeat (first | with_reducible exact HO2_0.out | with_reducible refine OwnB.setOther ?_ (by first | with_reducible assumption | omega) | with_reducible refine OwnB.drew ?_ | with_reducible refine OwnB.drewN ?_ _ | with_reducible refine OwnB.alloc ?_ _ | with_reducible refine OwnB.kept (by with_reducible assumption) ?_)))
        have HO3_1 : Hid (OwnB w6 (b1_1) [.int .i64 ha, .int .i64 hd]) := Lib.hid (OwnB.kept hk (by repeat (first | with_reducible exact HO2_1.out | with_reducible refine OwnB.setOther ?_ (by first | with_reducible assumption | omega) | with_reducible refine OwnB.drew ?_ | with_reducible refine OwnB.drewN ?_ _ | with_reducible refine OwnB.alloc ?_ _ | with_reducible refine OwnB.kept (by with_reducible assumption) ?_)))
        have HO3_2 : Hid (OwnB w6 (w.heap.size) [.int .i64 v0, .int .i64 v1]) := Lib.hid (OwnB.kept hk (by repeat (first | with_reducible exact HO2_2.out | with_reducible refine OwnB.setOther ?_ (by first | with_reducible assumption | omega) | with_reducible refine OwnB.drew ?_ | with_reducible refine OwnB.drewN ?_ _ | with_reducible refine OwnB.alloc ?_ _ | with_reducible refine OwnB.kept (by with_reducible assumption) ?_)))
        have HO3_3 : Hid (OwnB w6 (w.heap.size + 1) [.int .i64 m0, .int .i64 m1]) := Lib.hid (OwnB.kept hk (by repeat (first | with_reducible exact HO2_3.out | with_reducible refine OwnB.setOther ?_ (by first | with_reducible assumption | omega) | with_reducible refine OwnB.drew ?_ | with_reducible refine OwnB.drewN ?_ _ | with_reducible refine OwnB.alloc ?_ _ | with_reducible refine OwnB.kept (by with_reducible assumption) ?_)))
        have HO3_4 : Hid (OwnB w6 (w.heap.size + 2) [.int .i64 a0, .int .i64 d0, .int .i64 a1, .int .i64 d1]) := Lib.hid (OwnB.kept hk (by repeat (first | with_reducible exact HO2_4.out | with_reducible refine OwnB.setOther ?_ (by first | with_reducible assumption | omega) | with_reducible refine OwnB.drew ?_ | with_reducible refine OwnB.drewN ?_ _ | with_reducible refine OwnB.alloc ?_ _ | with_reducible refine OwnB.kept (by with_reducible assumption) ?_)))
        have HK3 : Hid (Kept w w6) := Lib.hid (Kept.trans (by repeat (first | with_reducible exact HK2.out | with_reducible refine Kept.setCell ?_ (by first | with_reducible assumption | omega) _ | with_reducible refine Kept.drew ?_ | with_reducible refine Kept.drewN ?_ _ | with_reducible refine Kept.alloc ?_ _ | with_reducible refine Kept.trans ?_ (by with_reducible assumption))) hk)
        clear hk HO2_0 HO2_1 HO2_2 HO2_3 HO2_4 HK2
        obtain ⟨oz0, og0, of0_0, of0_1, _⟩ := HO3_0.out
        obtain ⟨oz1, og1, of1_0, of1_1, _⟩ := HO3_1.out
        obtain ⟨oz2, og2, of2_0, of2_1, _⟩ := HO3_2.out
        obtain ⟨oz3, og3, of3_0, of3_1, _⟩ := HO3_3.out
        obtain ⟨oz4, og4, of4_0, of4_1, of4_2, of4_3, _⟩ := HO3_4.out
        go_wp2_with fail
        try clear oz0 og0 of0_0 of0_1 oz1 og1 of1_0 of1_1 oz2 og2 of2_0 of2_1 oz3 og3 of3_0 of3_1 oz4 og4 of4_0 of4_1 of4_2 of4_3
        refine (H4.out _ HK3.out).mono ?_
        rintro e w7 ⟨rfl, hk⟩
        have HO4_0 : Hid (OwnB w7 (b1_0) [.int .i64 la, .int .i64 ld]) := Lib.hid (OwnB.kept hk (by repeat (first | with_reducible exact HO3_0.out | with_reducible refine OwnB.setOther ?_ (by first | with_reducible assumption | omega) | with_reducible refine OwnB.drew ?_ | with_reducible refine OwnB.drewN ?_ _ | with_reducible refine OwnB.alloc ?_ _ | with_reducible refine OwnB.kept (by with_reducible assumption) ?_)))
        have HO4_1 : Hid (OwnB w7 (b1_1) [.int .i64 ha, .int .i64 hd]) := Lib.hid (OwnB.kept hk (by repeat (first | with_reducible exact HO3_1.out | with_reducible refine OwnB.setOther ?_ (by first | with_reducible assumption | omega) | with_reducible refine OwnB.drew ?_ | with_reducible refine OwnB.drewN ?_ _ | with_reducible refine OwnB.alloc ?_ _ | with_reducible refine OwnB.kept (by with_reducible assumption) ?_)))
        have HO4_2 : Hid (OwnB w7 (w.heap.size) [.int .i64 v0, .int .i64 v1]) := Lib.hid (OwnB.kept hk (by repeat (first | with_reducible exact HO3_2.out | with_reducible refine OwnB.setOther ?_ (by first | with_reducible assumption | omega) | with_reducible refine OwnB.drew ?_ | with_reducible refine OwnB.drewN ?_ _ | with_reducible refine OwnB.alloc ?_ _ | with_reducible refine OwnB.kept (by with_reducible assumption) ?_)))
        have HO4_3 : Hid (OwnB w7 (w.heap.size + 1) [.int .i64 m0, .int .i64 m1]) := Lib.hid (OwnB.kept hk (by repeat (first | with_reducible exact HO3_3.out | with_reducible refine OwnB.setOther ?_ (by first | with_reducible assumption | omega) | with_reducible refine OwnB.drew ?_ | with_reducible refine OwnB.drewN ?_ _ | with_reducible refine OwnB.alloc ?_ _ | with_reducible refine OwnB.kept (by with_reducible assumption) ?_)))
        have HO4_4 : Hid (OwnB w7 (w.heap.size + 2) [.int .i64 a0, .int .i64 d0, .int .i64 a1, .int .i64 d1]) := Lib.hid (OwnB.kept hk (by repeat (first | with_reducible exact HO3_4.out | with_reducible refine OwnB.setOther ?_ (by first | with_reducible assumption | omega) | with_reducible refine OwnB.drew ?_ | with_reducible refine OwnB.drewN ?_ _ | with_reducible refine OwnB.alloc ?_ _ | with_reducible refine OwnB.kept (by with_reducible assumption) ?_)))
        have HK4 : Hid (Kept w w7) := Lib.hid (Kept.trans (by repeat (first | with_reducible exact HK3.out | with_reducible refine Kept.setCell ?_ (by first | with_reducible assumption | omega) _ | with_reducible refine Kept.drew ?_ | with_reducible refine Kept.drewN ?_ _ | with_reducible refine Kept.alloc ?_ _ | with_reducible refine Kept.trans ?_ (by with_reducible assumption))) hk)
        clear hk HO3_0 HO3_1 HO3_2 HO3_3 HO3_4 HK3
        obtain ⟨oz0, og0, of0_0, of0_1, _⟩ := HO4_0.out
        obtain ⟨oz1, og1, of1_0, of1_1, _⟩ := HO4_1.out
        obtain ⟨oz2, og2, of2_0, of2_1, _⟩ := HO4_2.out
        obtain ⟨oz3, og3, of3_0, of3_1, _⟩ := HO4_3.out
        obtain ⟨oz4, og4, of4_0, of4_1, of4_2, of4_3, _⟩ := HO4_4.out
        go_wp2_with fail
        try clear oz0 og0 of0_0 of0_1 oz1 og1 of1_0 of1_1 oz2 og2 of2_0 of2_1 oz3 og3 of3_0 of3_1 oz4 og4 of4_0 of4_1 of4_2 of4_3
        all_goals go_ret
        all_goals first | exact ⟨rfl, HK4.out⟩ | (refine ⟨?_, HK4.out⟩; simp; omega) | (refine ⟨?_, HK4.out⟩; simp [*]; done)
    · have y1 : hV B N la hd = 0 := if_neg y
      rw [y1] at H2
      rw [z] at H1
      obtain ⟨F, qF⟩ : ∃ x, hE B N la hd = x := ⟨_, rfl⟩
      obtain ⟨S, qS⟩ : ∃ x, hV A M la ld = x := ⟨_, rfl⟩
      rw [qF] at H2 y
      rw [qS] at H1
      clear z y1 qF qS oA oM oa od
      obtain ⟨oz0, og0, of0_0, of0_1, _⟩ := HO0_0.out
      obtain ⟨oz1, og1, of1_0, of1_1, _⟩ := HO0_1.out
      obtain ⟨oz2, og2, of2_0, of2_1, _⟩ := HO0_2.out
      obtain ⟨oz3, og3, of3_0, of3_1, _⟩ := HO0_3.out
      obtain ⟨oz4, og4, of4_0, of4_1, of4_2, of4_3, _⟩ := HO0_4.out
      go_wp2_with fail
      try clear oz0 og0 of0_0 of0_1 oz1 og1 of1_0 of1_1 oz2 og2 of2_0 of2_1 oz3 og3 of3_0 of3_1 oz4 og4 of4_0 of4_1 of4_2 of4_3
      refine (H1.out _ HK0.out).mono ?_
      rintro e w4 ⟨rfl, hk⟩
      have HO1_0 : Hid (OwnB w4 (b1_0) [.int .i64 la, .int .i64 ld]) := Lib.hid (OwnB.kept hk (by repeat (first | with_reducible exact HO0_0.out | with_reducible refine OwnB.setOther ?_ (by first | with_reducible assumption | omega) | with_reducible refine OwnB.drew ?_ | with_reducible refine OwnB.drewN ?_ _ | with_reducible refine OwnB.alloc ?_ _ | with_reducible refine OwnB.kept (by with_reducible assumption) ?_)))
      have HO1_1 : Hid (OwnB w4 (b1_1) [.int .i64 ha, .int .i64 hd]) := Lib.hid (OwnB.kept hk (by repeat (first | with_reducible exact HO0_1.out | with_reducible refine OwnB.setOther ?_ (by first | with_reducible assumption | omega) | with_reducible refine OwnB.drew ?_ | with_reducible refine OwnB.drewN ?_ _ | with_reducible refine OwnB.alloc ?_ _ | with_reducible refine OwnB.kept (by with_reducible assumption) ?_)))
      have HO1_2 : Hid (OwnB w4 (w.heap.size) [.int .i64 v0, .int .i64 v1]) := Lib.hid (OwnB.kept hk (by repeat (first | with_reducible exact HO0_2.out | with_reducible refine OwnB.setOther ?_ (by first | with_reducible assumption | omega) | with_reducible refine OwnB.drew ?_ | with_reducible refine OwnB.drewN ?_ _ | with_reducible refine OwnB.alloc ?_ _ | with_reducible refine OwnB.kept (by with_reducible assumption) ?_)))
      have HO1_3 : Hid (OwnB w4 (w.heap.size + 1) [.int .i64 m0, .int .i64 m1]) := Lib.hid (OwnB.kept hk (by repeat (first | with_reducible exact HO0_3.out | with_reducible refine OwnB.setOther ?_ (by first | with_reducible assumption | omega) | with_reducible refine OwnB.drew ?_ | with_reducible refine OwnB.drewN ?_ _ | with_reducible refine OwnB.alloc ?_ _ | with_reducible refine OwnB.kept (by with_reducible assumption) ?_)))
      have HO1_4 : Hid (OwnB w4 (w.heap.size + 2) [.int .i64 a0, .int .i64 d0, .int .i64 a1, .int .i64 d1]) := Lib.hid (OwnB.kept hk (by repeat (first | with_reducible exact HO0_4.out | with_reducible refine OwnB.setOther ?_ (by first | with_reducible assumption | omega) | with_reducible refine OwnB.drew ?_ | with_reducible refine OwnB.drewN ?_ _ | with_reducible refine OwnB.alloc ?_ _ | with_reducible refine OwnB.kept (by with_reducible assumption) ?_)))
      have HK1 : Hid (Kept w w4) := Lib.hid (Kept.trans (by repeat (first | with_reducible exact HK0.out | with_reducible refine Kept.setCell ?_ (by first | with_reducible assumption | omega) _ | with_reducible refine Kept.drew ?_ | with_reducible refine Kept.drewN ?_ _ | with_reducible refine Kept.alloc ?_ _ | with_reducible refine Kept.trans ?_ (by with_reducible assumption))) hk)
      clear hk HO0_0 HO0_1 HO0_2 HO0_3 HO0_4 HK0
      obtain ⟨oz0, og0, of0_0, of0_1, _⟩ := HO1_0.out
      obtain ⟨oz1, og1, of1_0, of1_1, _⟩ := HO1_1.out
      obtain ⟨oz2, og2, of2_0, of2_1, _⟩ := HO1_2.out
      obtain ⟨oz3, og3, of3_0, of3_1, _⟩ := HO1_3.out
      obtain ⟨oz4, og4, of4_0, of4_1, of4_2, of4_3, _⟩ := HO1_4.out
      go_wp2_with fail
      try clear oz0 og0 of0_0 of0_1 oz1 og1 of1_0 of1_1 oz2 og2 of2_0 of2_1 oz3 og3 of3_0 of3_1 oz4 og4 of4_0 of4_1 of4_2 of4_3
      refine (H2.out _ HK1.out).mono ?_
      rintro e w5 ⟨rfl, hk⟩
      have HO2_0 : Hid (OwnB w5 (b1_0) [.int .i64 la, .int .i64 ld]) := Lib.hid (OwnB.kept hk (by repeat (first | with_reducible exact HO1_0.out | with_reducible refine OwnB.setOther ?_ (by first | with_reducible assumption | omega) | with_reducible refine OwnB.drew ?_ | with_reducible refine OwnB.drewN ?_ _ | with_reducible refine OwnB.alloc ?_ _ | with_reducible refine OwnB.kept (by with_reducible assumption) ?_)))
      have HO2_1 : Hid (OwnB w5 (b1_1) [.int .i64 ha, .int .i64 hd]) := Lib.hid (OwnB.kept hk (by repeat (first | with_reducible exact HO1_1.out | with_reducible refine OwnB.setOther ?_ (by first | with_reducible assumption | omega) | with_reducible refine OwnB.drew ?_ | with_reducible refine OwnB.drewN ?_ _ | with_reducible refine OwnB.alloc ?_ _ | with_reducible refine OwnB.kept (by with_reducible assumption) ?_)))
      have HO2_2 : Hid (OwnB w5 (w.heap.size) [.int .i64 v0, .int .i64 v1]) := Lib.hid (OwnB.kept hk (by repeat (first | with_reducible exact HO1_2.out | with_reducible refine OwnB.setOther ?_ (by first | with_reducible assumption | omega) | with_reducible refine OwnB.drew ?_ | with_reducible refine OwnB.drewN ?_ _ | with_reducible refine OwnB.alloc ?_ _ | with_reducible refine OwnB.kept (by with_reducible assumption) ?_)))
      have HO2_3 : Hid (OwnB w5 (w.heap.size + 1) [.int .i64 m0, .int .i64 m1]) := Lib.hid (OwnB.kept hk (by repeat (first | with_reducible exact HO1_3.out | with_reducible refine OwnB.setOther ?_ (by first | with_reducible assumption | omega) | with_reducible refine OwnB.drew ?_ | with_reducible refine OwnB.drewN ?_ _ | with_reducible refine OwnB.alloc ?_ _ | with_reducible refine OwnB.kept (by with_reducible assumption) ?_)))
      have HO2_4 : Hid (OwnB w5 (w.heap.size + 2) [.int .i64 a0, .int .i64 d0, .int .i64 a1, .int .i64 d1]) := Lib.hid (OwnB.kept hk (by repeat (first | with_reducible exact HO1_4.out | with_reducible refine OwnB.setOther ?_ (by first | with_reducible assumption | omega) | with_reducible refine OwnB.drew ?_ | with_reducible refine OwnB.drewN ?_ _ | with_reducible refine OwnB.alloc ?_ _ | with_reducible refine OwnB.kept (by with_reducible assumption) ?_)))
      have HK2 : Hid (Kept w w5) := Lib.hid (Kept.trans (by repeat (first | with_reducible exact HK1.out | with_reducible refine Kept.setCell ?_ (by first | with_reducible assumption | omega) _ | with_reducible refine Kept.drew ?_ | with_reducible refine Kept.drewN ?_ _ | with_reducible refine Kept.alloc ?_ _ | with_reducible refine Kept.trans ?_ (by with_reducible assumption))) hk)
      clear hk HO1_0 HO1_1 HO1_2 HO1_3 HO1_4 HK1
      obtain ⟨oz0, og0, of0_0, of0_1, _⟩ := HO2_0.out
      obtain ⟨oz1, og1, of1_0, of1_1, _⟩ := HO2_1.out
      obtain ⟨oz2, og2, of2_0, of2_1, _⟩ := HO2_2.out
      obtain ⟨oz3, og3, of3_0, of3_1, _⟩ := HO2_3.out
      obtain ⟨oz4, og4, of4_0, of4_1, of4_2, of4_3, _⟩ := HO2_4.out
      go_wp2_with fail
      try clear oz0 og0 of0_0 of0_1 oz1 og1 of1_0 of1_1 oz2 og2 of2_0 of2_1 oz3 og3 of3_0 of3_1 oz4 og4 of4_0 of4_1 of4_2 of4_3
      all_goals go_ret
      all_goals first | exact ⟨rfl, HK2.out⟩ | (refine ⟨?_, HK2.out⟩; simp; omega) | (refine ⟨?_, HK2.out⟩; simp [*]; done)
  · have z1 : hV A M la ld = 0 := if_neg z
    rw [z1] at H1
    obtain ⟨E, qE⟩ : ∃ x, hE A M la ld = x := ⟨_, rfl⟩
    obtain ⟨F, qF⟩ : ∃ x, hE B N la hd = x := ⟨_, rfl⟩
    obtain ⟨S, qS⟩ : ∃ x, hV B N la hd = x := ⟨_, rfl⟩
    rw [qE] at H1 z
    rw [qF, qS] at H2
    clear z1 qE qF qS oA oM oa od
    obtain ⟨oz0, og0, of0_0, of0_1, _⟩ := HO0_0.out
    obtain ⟨oz1, og1, of1_0, of1_1, _⟩ := HO0_1.out
    obtain ⟨oz2, og2, of2_0, of2_1, _⟩ := HO0_2.out
    obtain ⟨oz3, og3, of3_0, of3_1, _⟩ := HO0_3.out
    obtain ⟨oz4, og4, of4_0, of4_1, of4_2, of4_3, _⟩ := HO0_4.out
    go_wp2_with fail
    try clear oz0 og0 of0_0 of0_1 oz1 og1 of1_0 of1_1 oz2 og2 of2_0 of2_1 oz3 og3 of3_0 of3_1 oz4 og4 of4_0 of4_1 of4_2 of4_3
    refine (H1.out _ HK0.out).mono ?_
    rintro e w4 ⟨rfl, hk⟩
    have HO1_0 : Hid (OwnB w4 (b1_0) [.int .i64 la, .int .i64 ld]) := Lib.hid (OwnB.kept hk (by repeat (first | with_reducible exact HO0_0.out | with_reducible refine OwnB.setOther ?_ (by first | with_reducible assumption | omega) | with_reducible refine OwnB.drew ?_ | with_reducible refine OwnB.drewN ?_ _ | with_reducible refine OwnB.alloc ?_ _ | with_reducible refine OwnB.kept (by with_reducible assumption) ?_)))
    have HO1_1 : Hid (OwnB w4 (b1_1) [.int .i64 ha, .int .i64 hd]) := Lib.hid (OwnB.kept hk (by repeat (first | with_reducible exact HO0_1.out | with_reducible refine OwnB.setOther ?_ (by first | with_reducible assumption | omega) | with_reducible refine OwnB.drew ?_ | with_reducible refine OwnB.drewN ?_ _ | with_reducible refine OwnB.alloc ?_ _ | with_reducible refine OwnB.kept (by with_reducible assumption) ?_)))
    have HO1_2 : Hid (OwnB w4 (w.heap.size) [.int .i64 v0, .int .i64 v1]) := Lib.hid (OwnB.kept hk (by repeat (first | with_reducible exact HO0_2.out | with_reducible refine OwnB.setOther ?_ (by first | with_reducible assumption | omega) | with_reducible refine OwnB.drew ?_ | with_reducible refine OwnB.drewN ?_ _ | with_reducible refine OwnB.alloc ?_ _ | with_reducible refine OwnB.kept (by with_reducible assumption) ?_)))
    have HO1_3 : Hid (OwnB w4 (w.heap.size + 1) [.int .i64 m0, .int .i64 m1]) := Lib.hid (OwnB.kept hk (by repeat (first | with_reducible exact HO0_3.out | with_reducible refine OwnB.setOther ?_ (by first | with_reducible assumption | omega) | with_reducible refine OwnB.drew ?_ | with_reducible refine OwnB.drewN ?_ _ | with_reducible refine OwnB.alloc ?_ _ | with_reducible refine OwnB.kept (by with_reducible assumption) ?_)))
    have HO1_4 : Hid (OwnB w4 (w.heap.size + 2) [.int .i64 a0, .int .i64 d0, .int .i64 a1, .int .i64 d1]) := Lib.hid (OwnB.kept hk (by repeat (first | with_reducible exact HO0_4.out | with_reducible refine OwnB.setOther ?_ (by first | with_reducible assumption | omega) | with_reducible refine OwnB.drew ?_ | with_reducible refine OwnB.drewN ?_ _ | with_reducible refine OwnB.alloc ?_ _ | with_reducible refine OwnB.kept (by with_reducible assumption) ?_)))
    have HK1 : Hid (Kept w w4) := Lib.hid (Kept.trans (by repeat (first | with_reducible exact HK0.out | with_reducible refine Kept.setCell ?_ (by first | with_reducible assumption | omega) _ | with_reducible refine Kept.drew ?_ | with_reducible refine Kept.drewN ?_ _ | with_reducible refine Kept.alloc ?_ _ | with_reducible refine Kept.trans ?_ (by with_reducible assumption))) hk)
    clear hk HO0_0 HO0_1 HO0_2 HO0_3 HO0_4 HK0
    obtain ⟨oz0, og0, of0_0, of0_1, _⟩ := HO1_0.out
    obtain ⟨oz1, og1, of1_0, of1_1, _⟩ := HO1_1.out
    obtain ⟨oz2, og2, of2_0, of2_1, _⟩ := HO1_2.out
    obtain ⟨oz3, og3, of3_0, of3_1, _⟩ := HO1_3.out
    obtain ⟨oz4, og4, of4_0, of4_1, of4_2, of4_3, _⟩ := HO1_4.out
    go_wp2_with fail
    try clear oz0 og0 of0_0 of0_1 oz1 og1 of1_0 of1_1 oz2 og2 of2_0 of2_1 oz3 og3 of3_0 of3_1 oz4 og4 of4_0 of4_1 of4_2 of4_3
    refine (H2.out _ HK1.out).mono ?_
    rintro e w5 ⟨rfl, hk⟩
    have HO2_0 : Hid (OwnB w5 (b1_0) [.int .i64 la, .int .i64 ld]) := Lib.hid (OwnB.kept hk (by repeat (first | with_reducible exact HO1_0.out | with_reducible refine OwnB.setOther ?_ (by first | with_reducible assumption | omega) | with_reducible refine OwnB.drew ?_ | with_reducible refine OwnB.drewN ?_ _ | with_reducible refine OwnB.alloc ?_ _ | with_reducible refine OwnB.kept (by with_reducible assumption) ?_)))
    have HO2_1 : Hid (OwnB w5 (b1_1) [.int .i64 ha, .int .i64 hd]) := Lib.hid (OwnB.kept hk (by repeat (first | with_reducible exact HO1_1.out | with_reducible refine OwnB.setOther ?_ (by first | with_reducible assumption | omega) | with_reducible refine OwnB.drew ?_ | with_reducible refine OwnB.drewN ?_ _ | with_reducible refine OwnB.alloc ?_ _ | with_reducible refine OwnB.kept (by with_reducible assumption) ?_)))
    have HO2_2 : Hid (OwnB w5 (w.heap.size) [.int .i64 v0, .int .i64 v1]) := Lib.hid (OwnB.kept hk (by repeat (first | with_reducible exact HO1_2.out | with_reducible refine OwnB.setOther ?_ (by first | with_reducible assumption | omega) | with_reducible refine OwnB.drew ?_ | with_reducible refine OwnB.drewN ?_ _ | with_reducible refine OwnB.alloc ?_ _ | with_reducible refine OwnB.kept (by with_reducible assumption) ?_)))
    have HO2_3 : Hid (OwnB w5 (w.heap.size + 1) [.int .i64 m0, .int .i64 m1]) := Lib.hid (OwnB.kept hk (by repeat (first | with_reducible exact HO1_3.out | with_reducible refine OwnB.setOther ?_ (by first | with_reducible assumption | omega) | with_reducible refine OwnB.drew ?_ | with_reducible refine OwnB.drewN ?_ _ | with_reducible refine OwnB.alloc ?_ _ | with_reducible refine OwnB.kept (by with_reducible assumption) ?_)))
    have HO2_4 : Hid (OwnB w5 (w.heap.size + 2) [.int .i64 a0, .int .i64 d0, .int .i64 a1, .int .i64 d1]) := Lib.hid (OwnB.kept hk (by repeat (first | with_reducible exact HO1_4.out | with_reducible refine OwnB.setOther ?_ (by first | with_reducible assumption | omega) | with_reducible refine OwnB.drew ?_ | with_reducible refine OwnB.drewN ?_ _ | with_reducible refine OwnB.alloc ?_ _ | with_reducible refine OwnB.kept (by with_reducible assumption) ?_)))
    have HK2 : Hid (Kept w w5) := Lib.hid (Kept.trans (by repeat (first | with_reducible exact HK1.out | with_reducible refine Kept.setCell ?_ (by first | with_reducible assumption | omega) _ | with_reducible refine Kept.drew ?_ | with_reducible refine Kept.drewN ?_ _ | with_reducible refine Kept.alloc ?_ _ | with_reducible refine Kept.trans ?_ (by with_reducible assumption))) hk)
    clear hk HO1_0 HO1_1 HO1_2 HO1_3 HO1_4 HK1
    obtain ⟨oz0, og0, of0_0, of0_1, _⟩ := HO2_0.out
    obtain ⟨oz1, og1, of1_0, of1_1, _⟩ := HO2_1.out
    obtain ⟨oz2, og2, of2_0, of2_1, _⟩ := HO2_2.out
    obtain ⟨oz3, og3, of3_0, of3_1, _⟩ := HO2_3.out
    obtain ⟨oz4, og4, of4_0, of4_1, of4_2, of4_3, _⟩ := HO2_4.out
    go_wp2_with fail
    try clear oz0 og0 of0_0 of0_1 oz1 og1 of1_0 of1_1 oz2 og2 of2_0 of2_1 oz3 og3 of3_0 of3_1 oz4 og4 of4_0 of4_1 of4_2 of4_3
    all_goals go_ret
    all_goals first | exact ⟨rfl, HK2.out⟩ | (refine ⟨?_, HK2.out⟩; simp; omega) | (refine ⟨?_, HK2.out⟩; simp [*]; done)
end Go.Proofs.YtfkgghjinkmpiaaDoor
