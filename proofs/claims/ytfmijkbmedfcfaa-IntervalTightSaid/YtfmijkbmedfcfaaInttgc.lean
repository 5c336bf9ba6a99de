/-
  The law that the bounds of sums and products are sums and products of bounds.
-/
import Derived.Test.YtfmijkbmedfcfaaInttga
import Derived.Test.YtfmijkbmedfcfaaIntn
import Derived.Test.YtfmijkbmedfcfaaRow
import Derived.Test.YtfmijkbmedfcfaaRegi
import Derived.Shelf.Abstract
import Derived.WalkKit
import Derived.ProofKit
import Derived.OpenShut
import Derived.WalkLawsBesides
import Derived.WalkSpells
import Derived.Lib.Hide
import Derived.Deep.DeepCutAuto
import Derived.Deep.CutBlock
import Derived.Deep.QuietTactic
import Derived.BigQuiet
import Derived.Handy
import Derived.StillTailTactics
import Derived.IntWalk
import Derived.LoopN
import Derived.Deep.RegionHeld3
namespace Go.Proofs.Ytfmijkbmedfcfaa
open Go.ChangeShapes Go.WideShapes Go.ChangeAt Go.RowKit
set_option linter.unusedVariables false
set_option linter.unusedSimpArgs false

set_option maxHeartbeats 16000000 in
set_option maxRecDepth 100000 in
theorem tight_m2 (a b c d al ag ml mg v0 v1 v2 v3 : Int) (x1 : a ≤ b) (x2 : -4611686018427387904 ≤ a) (x3 : b ≤ 4611686018427387904) (y1 : c ≤ d) (y2 : -4611686018427387904 ≤ c) (y3 : d ≤ 4611686018427387904) (hm : -4611686018427387904 ≤ ml ∧ ml ≤ mg ∧ mg ≤ 4611686018427387904) (kL : ml = v0 ∨ ml = v1 ∨ ml = v2 ∨ ml = v3) (kG : mg = v0 ∨ mg = v1 ∨ mg = v2 ∨ mg = v3) (Hca : Hid (∀ w, Calls Try.prog 5 #[.agg #[.int .i64 a, .int .i64 b], .agg #[.int .i64 c, .int .i64 d]] w fun en w' => en = .returned (.tuple #[.agg #[.int .i64 al, .int .i64 ag], .int .i64 2]) ∧ Kept w w')) (Hcm : Hid (∀ w, Calls Try.prog 6 #[.agg #[.int .i64 a, .int .i64 b], .agg #[.int .i64 c, .int .i64 d]] w fun en w' => en = .returned (.tuple #[.agg #[.int .i64 ml, .int .i64 mg], .int .i64 0]) ∧ Kept w w')) (Hcl : Hid (∀ w, Calls Try.prog 7 #[.int .i64 ml] w fun en w' => en = .returned (.agg #[.int .i64 (wh ml), .int .u64 (wl ml)]) ∧ Kept w w')) (Hcg : Hid (∀ w, Calls Try.prog 7 #[.int .i64 mg] w fun en w' => en = .returned (.agg #[.int .i64 (wh mg), .int .u64 (wl mg)]) ∧ Kept w w')) (Hc0 : Hid (∀ w, Calls Try.prog 8 #[.int .i64 a, .int .i64 c] w fun en w' => en = .returned (.agg #[.int .i64 (wh v0), .int .u64 (wl v0)]) ∧ Kept w w')) (Hc1 : Hid (∀ w, Calls Try.prog 8 #[.int .i64 a, .int .i64 d] w fun en w' => en = .returned (.agg #[.int .i64 (wh v1), .int .u64 (wl v1)]) ∧ Kept w w')) (Hc2 : Hid (∀ w, Calls Try.prog 8 #[.int .i64 b, .int .i64 c] w fun en w' => en = .returned (.agg #[.int .i64 (wh v2), .int .u64 (wl v2)]) ∧ Kept w w')) (Hc3 : Hid (∀ w, Calls Try.prog 8 #[.int .i64 b, .int .i64 d] w fun en w' => en = .returned (.agg #[.int .i64 (wh v3), .int .u64 (wl v3)]) ∧ Kept w w')) (w : World) : Calls Try.prog 3 #[.agg #[.int .i64 a, .int .i64 b], .agg #[.int .i64 c, .int .i64 d]] w fun en w' => en = .returned (.bool true) ∧ Kept w w' := by
  go_enter Try.func3, Try.ntmps3
  go_wp2_with fail
  with_reducible refine (awake_w _).mono ?_
  rintro e w1 ⟨rfl, hk1⟩
  refine kuse (b := w.heap.size) hk1 (by first | (simp; done) | (simp; omega) | omega) ?_
  intro ha hb
  have hz1_0 : w.heap.size < w1.heap.size := by have := hk1.size; (try simp at this); omega
  have hn1_0 : ¬ w.heap.size = w1.heap.size := by omega
  have hm1_0 : ¬ w1.heap.size = w.heap.size := by omega
  have hf1_0_0 : w1.cell? ⟨w.heap.size, 0, none⟩ = some (.int .i64 a) := by first | (rw [ha]; with_reducible assumption) | (simp (maxDischargeDepth := 7) [go_sem, ha]; done) | (rw [ha]; assumption) | (simp (maxDischargeDepth := 7) [go_sem, ha, *]; done)
  have hf1_0_1 : w1.cell? ⟨w.heap.size, 1, none⟩ = some (.int .i64 b) := by first | (rw [ha]; with_reducible assumption) | (simp (maxDischargeDepth := 7) [go_sem, ha]; done) | (rw [ha]; assumption) | (simp (maxDischargeDepth := 7) [go_sem, ha, *]; done)
  try have hg1_0 : ∀ o, w1.frozen? ⟨w.heap.size, o, none⟩ = false := by intro o; first | (simp (maxDischargeDepth := 7) [go_sem, hb]; done) | (rw [hb]; simp (maxDischargeDepth := 7) [go_sem, *]; done)
  clear ha hb
  refine kuse (b := w.heap.size + 1) hk1 (by first | (simp; done) | (simp; omega) | omega) ?_
  intro ha hb
  have hz1_1 : w.heap.size + 1 < w1.heap.size := by have := hk1.size; (try simp at this); omega
  have hn1_1 : ¬ w.heap.size + 1 = w1.heap.size := by omega
  have hm1_1 : ¬ w1.heap.size = w.heap.size + 1 := by omega
  have hf1_1_0 : w1.cell? ⟨w.heap.size + 1, 0, none⟩ = some (.int .i64 c) := by first | (rw [ha]; with_reducible assumption) | (simp (maxDischargeDepth := 7) [go_sem, ha]; done) | (rw [ha]; assumption) | (simp (maxDischargeDepth := 7) [go_sem, ha, *]; done)
  have hf1_1_1 : w1.cell? ⟨w.heap.size + 1, 1, none⟩ = some (.int .i64 d) := by first | (rw [ha]; with_reducible assumption) | (simp (maxDischargeDepth := 7) [go_sem, ha]; done) | (rw [ha]; assumption) | (simp (maxDischargeDepth := 7) [go_sem, ha, *]; done)
  try have hg1_1 : ∀ o, w1.frozen? ⟨w.heap.size + 1, o, none⟩ = false := by intro o; first | (simp (maxDischargeDepth := 7) [go_sem, hb]; done) | (rw [hb]; simp (maxDischargeDepth := 7) [go_sem, *]; done)
  clear ha hb
  go_wp2_with fail
  with_reducible refine (Hca.out _).mono ?_
  rintro e w2 ⟨rfl, hk2⟩
  refine kuse (b := w.heap.size) hk2 (by first | (simp; done) | (simp; omega) | omega) ?_
  intro ha hb
  have hz2_0 : w.heap.size < w2.heap.size := by have := hk2.size; (try simp at this); omega
  have hn2_0 : ¬ w.heap.size = w2.heap.size := by omega
  have hm2_0 : ¬ w2.heap.size = w.heap.size := by omega
  have hf2_0_0 : w2.cell? ⟨w.heap.size, 0, none⟩ = some (.int .i64 a) := by first | (rw [ha]; with_reducible assumption) | (simp (maxDischargeDepth := 7) [go_sem, ha]; done) | (rw [ha]; assumption) | (simp (maxDischargeDepth := 7) [go_sem, ha, *]; done)
  have hf2_0_1 : w2.cell? ⟨w.heap.size, 1, none⟩ = some (.int .i64 b) := by first | (rw [ha]; with_reducible assumption) | (simp (maxDischargeDepth := 7) [go_sem, ha]; done) | (rw [ha]; assumption) | (simp (maxDischargeDepth := 7) [go_sem, ha, *]; done)
  try have hg2_0 : ∀ o, w2.frozen? ⟨w.heap.size, o, none⟩ = false := by intro o; first | (simp (maxDischargeDepth := 7) [go_sem, hb]; done) | (rw [hb]; simp (maxDischargeDepth := 7) [go_sem, *]; done)
  clear ha hb
  refine kuse (b := w.heap.size + 1) hk2 (by first | (simp; done) | (simp; omega) | omega) ?_
  intro ha hb
  have hz2_1 : w.heap.size + 1 < w2.heap.size := by have := hk2.size; (try simp at this); omega
  have hn2_1 : ¬ w.heap.size + 1 = w2.heap.size := by omega
  have hm2_1 : ¬ w2.heap.size = w.heap.size + 1 := by omega
  have hf2_1_0 : w2.cell? ⟨w.heap.size + 1, 0, none⟩ = some (.int .i64 c) := by first | (rw [ha]; with_reducible assumption) | (simp (maxDischargeDepth := 7) [go_sem, ha]; done) | (rw [ha]; assumption) | (simp (maxDischargeDepth := 7) [go_sem, ha, *]; done)
  have hf2_1_1 : w2.cell? ⟨w.heap.size + 1, 1, none⟩ = some (.int .i64 d) := by first | (rw [ha]; with_reducible assumption) | (simp (maxDischargeDepth := 7) [go_sem, ha]; done) | (rw [ha]; assumption) | (simp (maxDischargeDepth := 7) [go_sem, ha, *]; done)
  try have hg2_1 : ∀ o, w2.frozen? ⟨w.heap.size + 1, o, none⟩ = false := by intro o; first | (simp (maxDischargeDepth := 7) [go_sem, hb]; done) | (rw [hb]; simp (maxDischargeDepth := 7) [go_sem, *]; done)
  clear ha hb
  try clear hf1_0_0
  try clear hf1_0_1
  try clear hf1_1_0
  try clear hf1_1_1
  try clear hg1_0
  try clear hg1_1
  try clear hz1_1
  go_wp2_with fail
  with_reducible refine (Hcm.out _).mono ?_
  rintro e w3 ⟨rfl, hk3⟩
  refine kuse (b := w.heap.size) hk3 (by first | (simp; done) | (simp; omega) | omega) ?_
  intro ha hb
  have hz3_0 : w.heap.size < w3.heap.size := by have := hk3.size; (try simp at this); omega
  have hn3_0 : ¬ w.heap.size = w3.heap.size := by omega
  have hm3_0 : ¬ w3.heap.size = w.heap.size := by omega
  have hf3_0_0 : w3.cell? ⟨w.heap.size, 0, none⟩ = some (.int .i64 a) := by first | (rw [ha]; with_reducible assumption) | (simp (maxDischargeDepth := 7) [go_sem, ha]; done) | (rw [ha]; assumption) | (simp (maxDischargeDepth := 7) [go_sem, ha, *]; done)
  have hf3_0_1 : w3.cell? ⟨w.heap.size, 1, none⟩ = some (.int .i64 b) := by first | (rw [ha]; with_reducible assumption) | (simp (maxDischargeDepth := 7) [go_sem, ha]; done) | (rw [ha]; assumption) | (simp (maxDischargeDepth := 7) [go_sem, ha, *]; done)
  try have hg3_0 : ∀ o, w3.frozen? ⟨w.heap.size, o, none⟩ = false := by intro o; first | (simp (maxDischargeDepth := 7) [go_sem, hb]; done) | (rw [hb]; simp (maxDischargeDepth := 7) [go_sem, *]; done)
  clear ha hb
  refine kuse (b := w.heap.size + 1) hk3 (by first | (simp; done) | (simp; omega) | omega) ?_
  intro ha hb
  have hz3_1 : w.heap.size + 1 < w3.heap.size := by have := hk3.size; (try simp at this); omega
  have hn3_1 : ¬ w.heap.size + 1 = w3.heap.size := by omega
  have hm3_1 : ¬ w3.heap.size = w.heap.size + 1 := by omega
  have hf3_1_0 : w3.cell? ⟨w.heap.size + 1, 0, none⟩ = some (.int .i64 c) := by first | (rw [ha]; with_reducible assumption) | (simp (maxDischargeDepth := 7) [go_sem, ha]; done) | (rw [ha]; assumption) | (simp (maxDischargeDepth := 7) [go_sem, ha, *]; done)
  have hf3_1_1 : w3.cell? ⟨w.heap.size + 1, 1, none⟩ = some (.int .i64 d) := by first | (rw [ha]; with_reducible assumption) | (simp (maxDischargeDepth := 7) [go_sem, ha]; done) | (rw [ha]; assumption) | (simp (maxDischargeDepth := 7) [go_sem, ha, *]; done)
  try have hg3_1 : ∀ o, w3.frozen? ⟨w.heap.size + 1, o, none⟩ = false := by intro o; first | (simp (maxDischargeDepth := 7) [go_sem, hb]; done) | (rw [hb]; simp (maxDischargeDepth := 7) [go_sem, *]; done)
  clear ha hb
  refine kuse (b := w2.heap.size) hk3 (by first | (simp; done) | (simp; omega) | omega) ?_
  intro ha hb
  have hz3_2 : w2.heap.size < w3.heap.size := by have := hk3.size; (try simp at this); omega
  have hn3_2 : ¬ w2.heap.size = w3.heap.size := by omega
  have hm3_2 : ¬ w3.heap.size = w2.heap.size := by omega
  have hf3_2_0 : w3.cell? ⟨w2.heap.size, 0, none⟩ = some (.int .i64 al) := by first | (rw [ha]; with_reducible assumption) | (simp (maxDischargeDepth := 7) [go_sem, ha]; done) | (rw [ha]; assumption) | (simp (maxDischargeDepth := 7) [go_sem, ha, *]; done)
  have hf3_2_1 : w3.cell? ⟨w2.heap.size, 1, none⟩ = some (.int .i64 ag) := by first | (rw [ha]; with_reducible assumption) | (simp (maxDischargeDepth := 7) [go_sem, ha]; done) | (rw [ha]; assumption) | (simp (maxDischargeDepth := 7) [go_sem, ha, *]; done)
  try have hg3_2 : ∀ o, w3.frozen? ⟨w2.heap.size, o, none⟩ = false := by intro o; first | (simp (maxDischargeDepth := 7) [go_sem, hb]; done) | (rw [hb]; simp (maxDischargeDepth := 7) [go_sem, *]; done)
  clear ha hb
  try clear hf2_0_0
  try clear hf2_0_1
  try clear hf2_1_0
  try clear hf2_1_1
  try clear hg2_0
  try clear hg2_1
  try clear hz2_1
  go_wp2_with fail
  have B0 : OwnB (w3.alloc (.cells #[.int .i64 ml, .int .i64 mg] 23)) (w.heap.size) [.int .i64 a, .int .i64 b] := OwnB.alloc (show OwnB w3 (w.heap.size) [.int .i64 a, .int .i64 b] from ⟨hz3_0, hg3_0, hf3_0_0, hf3_0_1, trivial⟩) _
  have HB0_0 := Lib.hid B0
  clear B0
  have B1 : OwnB (w3.alloc (.cells #[.int .i64 ml, .int .i64 mg] 23)) (w.heap.size + 1) [.int .i64 c, .int .i64 d] := OwnB.alloc (show OwnB w3 (w.heap.size + 1) [.int .i64 c, .int .i64 d] from ⟨hz3_1, hg3_1, hf3_1_0, hf3_1_1, trivial⟩) _
  have HB0_1 := Lib.hid B1
  clear B1
  have B2 : OwnB (w3.alloc (.cells #[.int .i64 ml, .int .i64 mg] 23)) (w2.heap.size) [.int .i64 al, .int .i64 ag] := OwnB.alloc (show OwnB w3 (w2.heap.size) [.int .i64 al, .int .i64 ag] from ⟨hz3_2, hg3_2, hf3_2_0, hf3_2_1, trivial⟩) _
  have HB0_2 := Lib.hid B2
  clear B2
  have B3 : OwnB (w3.alloc (.cells #[.int .i64 ml, .int .i64 mg] 23)) (w3.heap.size) [.int .i64 ml, .int .i64 mg] := own_alloc _ [.int .i64 ml, .int .i64 mg] 23
  have HB0_3 := Lib.hid B3
  clear B3
  go_upto_region 9 with (fail)
  go_cut [9, 10] (fun p0 p1 wx => ∃ b0 b1 : Nat, p0 = .pointer (some ⟨b0, 0, none⟩) ∧ p1 = .pointer (some ⟨b1, 0, none⟩) ∧ w3.heap.size < b0 ∧ w3.heap.size < b1 ∧ b1 ≠ b0 ∧ OwnB wx (b0) [.int .i64 (wh ml), .int .u64 (wl ml)] ∧ OwnB wx (b1) [.int .i64 (wh mg), .int .u64 (wl mg)] ∧ OwnB wx (w.heap.size) [.int .i64 a, .int .i64 b] ∧ OwnB wx (w.heap.size + 1) [.int .i64 c, .int .i64 d] ∧ OwnB wx (w2.heap.size) [.int .i64 al, .int .i64 ag] ∧ OwnB wx (w3.heap.size) [.int .i64 ml, .int .i64 mg] ∧ Kept (w3.alloc (.cells #[.int .i64 ml, .int .i64 mg] 23)) wx)
  case first =>
    rename_i J_ K_ hR_ hM_
    refine region_put (by kernel_rfl) (X := Nat × Nat) (fun p => [(0, 59, .pointer (some ⟨w3.heap.size, 0, none⟩)), (1, 60, .int .i64 ml), (2, 61, .agg #[.int .i64 (wh ml), .int .u64 (wl ml)]), (3, 62, .pointer (some ⟨w3.heap.size, 1, none⟩)), (4, 63, .int .i64 mg), (5, 64, .agg #[.int .i64 (wh mg), .int .u64 (wl mg)]), (6, 9, .pointer (some ⟨p.1, 0, none⟩)), (7, 10, .pointer (some ⟨p.2, 0, none⟩))]) (fun p l x => l.size = 10 ∧ Kept (w3.alloc (.cells #[.int .i64 ml, .int .i64 mg] 23)) x ∧ (l.getD 6 false = true → (w3.alloc (.cells #[.int .i64 ml, .int .i64 mg] 23)).heap.size ≤ p.1 ∧ (l.getD 8 false = true → OwnB x p.1 [.int .i64 (wh ml), .int .u64 (wl ml)]) ∧ (l.getD 8 false = false → OwnB x p.1 [.int .i64 0, .int .u64 0])) ∧ (l.getD 7 false = true → (w3.alloc (.cells #[.int .i64 ml, .int .i64 mg] 23)).heap.size ≤ p.2 ∧ (l.getD 9 false = true → OwnB x p.2 [.int .i64 (wh mg), .int .u64 (wl mg)]) ∧ (l.getD 9 false = false → OwnB x p.2 [.int .i64 0, .int .u64 0])) ∧ (l.getD 6 false = true → l.getD 7 false = true → p.1 ≠ p.2) ∧ (l.getD 8 false = true → l.getD 6 false = true) ∧ (l.getD 9 false = true → l.getD 7 false = true)) (0, 0) ?_ ?_ ?_
    · exact ⟨by simp, (Kept.refl _).drew, (fun h => by simp at h), (fun h => by simp at h), (fun h => by simp at h), (fun h => by simp at h), (fun h => by simp at h)⟩
    · rintro ⟨b0, b1⟩ l x i hi ⟨hl, hk, h6, h7, e6_7, d6, d7⟩
      have hlt : i < 10 := (ready_lt hi).1
      have hnn : l.getD i false = false := (ready_not hi).resolve_right (by omega)
      obtain ⟨V, hV0⟩ : ∃ V : List (Nat × Nat × Value), V = (fun p => [(0, 59, .pointer (some ⟨w3.heap.size, 0, none⟩)), (1, 60, .int .i64 ml), (2, 61, .agg #[.int .i64 (wh ml), .int .u64 (wl ml)]), (3, 62, .pointer (some ⟨w3.heap.size, 1, none⟩)), (4, 63, .int .i64 mg), (5, 64, .agg #[.int .i64 (wh mg), .int .u64 (wl mg)]), (6, 9, .pointer (some ⟨p.1, 0, none⟩)), (7, 10, .pointer (some ⟨p.2, 0, none⟩))]) (b0, b1) := ⟨_, rfl⟩
      have hV : V = [(0, 59, .pointer (some ⟨w3.heap.size, 0, none⟩)), (1, 60, .int .i64 ml), (2, 61, .agg #[.int .i64 (wh ml), .int .u64 (wl ml)]), (3, 62, .pointer (some ⟨w3.heap.size, 1, none⟩)), (4, 63, .int .i64 mg), (5, 64, .agg #[.int .i64 (wh mg), .int .u64 (wl mg)]), (6, 9, .pointer (some ⟨b0, 0, none⟩)), (7, 10, .pointer (some ⟨b1, 0, none⟩))] := hV0
      have N1 : (V.map (·.1)).Nodup := by rw [hV]; show ([0, 1, 2, 3, 4, 5, 6, 7] : List Nat).Nodup; decide
      have N2 : (V.map (·.2.1)).Nodup := by rw [hV]; show ([59, 60, 61, 62, 63, 64, 9, 10] : List Nat).Nodup; decide
      rcases (show i = 0 ∨ i = 1 ∨ i = 2 ∨ i = 3 ∨ i = 4 ∨ i = 5 ∨ i = 6 ∨ i = 7 ∨ i = 8 ∨ i = 9 by omega) with rfl | rfl | rfl | rfl | rfl | rfl | rfl | rfl | rfl | rfl
      · -- 0
        have ev7 : ∀ (A : Act), A.eval (.tmp 7) = (.pointer (some ⟨w3.heap.size, 0, none⟩)) → (putL l V A).eval (.tmp 7) = (.pointer (some ⟨w3.heap.size, 0, none⟩)) := fun A h => (putL_eval_out (by rw [hV]; show 7 ∉ ([59, 60, 61, 62, 63, 64, 9, 10] : List Nat); decide)).trans h
        have g6 : (l.setIfInBounds 0 true).getD 6 false = l.getD 6 false := getD_set_ne false (by decide)
        have g7 : (l.setIfInBounds 0 true).getD 7 false = l.getD 7 false := getD_set_ne false (by decide)
        have g8 : (l.setIfInBounds 0 true).getD 8 false = l.getD 8 false := getD_set_ne false (by decide)
        have g9 : (l.setIfInBounds 0 true).getD 9 false = l.getD 9 false := getD_set_ne false (by decide)
        change wpOp _ _ _ _ _ (putL l [(0, 59, .pointer (some ⟨w3.heap.size, 0, none⟩)), (1, 60, .int .i64 ml), (2, 61, .agg #[.int .i64 (wh ml), .int .u64 (wl ml)]), (3, 62, .pointer (some ⟨w3.heap.size, 1, none⟩)), (4, 63, .int .i64 mg), (5, 64, .agg #[.int .i64 (wh mg), .int .u64 (wl mg)]), (6, 9, .pointer (some ⟨b0, 0, none⟩)), (7, 10, .pointer (some ⟨b1, 0, none⟩))] _) _
        rw [← hV]
        refine wpOp_of (by simp only [List.getElem?_toArray, List.getElem?_cons_succ, List.getElem?_cons_zero]; rfl) rfl ?_
        refine wp_value (v := .pointer (some ⟨w3.heap.size, 0, none⟩)) (w' := x) ?_ ⟨(b0, b1), ((putL_set (by omega) hnn N1 N2 (by rw [hV]; exact List.mem_of_getElem? (i := 0) rfl)).symm.trans (by rw [hV0])), by simp [hl], hk, ?_, ?_, ?_, ?_, ?_⟩
        · clear hV hV0
          simp only [execOp, Go.resolve, List.map_toArray, List.map_cons, List.map_nil]
          rw [ev7 _ (by first | rfl | decide | (simp; done))]
          first | (simp [go_sem]; done) | (simp [go_sem, *]; done)
        all_goals (simp only [g6, g7, g8, g9]; assumption)
      · -- 1
        have ev59 : ∀ (A : Act), 59 < A.tmps.size → (putL l V A).eval (.tmp 59) = (.pointer (some ⟨w3.heap.size, 0, none⟩)) := fun A h => putL_eval (i := 0) (ready_on hi (by kernel_rfl)) N2 (by rw [hV]; exact List.mem_of_getElem? (i := 0) rfl) h
        have g6 : (l.setIfInBounds 1 true).getD 6 false = l.getD 6 false := getD_set_ne false (by decide)
        have g7 : (l.setIfInBounds 1 true).getD 7 false = l.getD 7 false := getD_set_ne false (by decide)
        have g8 : (l.setIfInBounds 1 true).getD 8 false = l.getD 8 false := getD_set_ne false (by decide)
        have g9 : (l.setIfInBounds 1 true).getD 9 false = l.getD 9 false := getD_set_ne false (by decide)
        change wpOp _ _ _ _ _ (putL l [(0, 59, .pointer (some ⟨w3.heap.size, 0, none⟩)), (1, 60, .int .i64 ml), (2, 61, .agg #[.int .i64 (wh ml), .int .u64 (wl ml)]), (3, 62, .pointer (some ⟨w3.heap.size, 1, none⟩)), (4, 63, .int .i64 mg), (5, 64, .agg #[.int .i64 (wh mg), .int .u64 (wl mg)]), (6, 9, .pointer (some ⟨b0, 0, none⟩)), (7, 10, .pointer (some ⟨b1, 0, none⟩))] _) _
        rw [← hV]
        refine wpOp_of (by simp only [List.getElem?_toArray, List.getElem?_cons_succ, List.getElem?_cons_zero]; rfl) rfl ?_
        refine wp_value (v := .int .i64 ml) (w' := x) ?_ ⟨(b0, b1), ((putL_set (by omega) hnn N1 N2 (by rw [hV]; exact List.mem_of_getElem? (i := 1) rfl)).symm.trans (by rw [hV0])), by simp [hl], hk, ?_, ?_, ?_, ?_, ?_⟩
        · clear hV hV0
          simp only [execOp, Go.resolve, List.map_toArray, List.map_cons, List.map_nil]
          rw [ev59 _ (by first | rfl | decide | (simp; done))]
          obtain ⟨oz, og, oc0, oc1, _⟩ := OwnB.kept hk HB0_3.out
          first | (simp [go_sem]; done) | (simp [go_sem, *]; done)
        all_goals (simp only [g6, g7, g8, g9]; assumption)
      · -- 2
        have ev60 : ∀ (A : Act), 60 < A.tmps.size → (putL l V A).eval (.tmp 60) = (.int .i64 ml) := fun A h => putL_eval (i := 1) (ready_on hi (by kernel_rfl)) N2 (by rw [hV]; exact List.mem_of_getElem? (i := 1) rfl) h
        have g6 : (l.setIfInBounds 2 true).getD 6 false = l.getD 6 false := getD_set_ne false (by decide)
        have g7 : (l.setIfInBounds 2 true).getD 7 false = l.getD 7 false := getD_set_ne false (by decide)
        have g8 : (l.setIfInBounds 2 true).getD 8 false = l.getD 8 false := getD_set_ne false (by decide)
        have g9 : (l.setIfInBounds 2 true).getD 9 false = l.getD 9 false := getD_set_ne false (by decide)
        change wpOp _ _ _ _ _ (putL l [(0, 59, .pointer (some ⟨w3.heap.size, 0, none⟩)), (1, 60, .int .i64 ml), (2, 61, .agg #[.int .i64 (wh ml), .int .u64 (wl ml)]), (3, 62, .pointer (some ⟨w3.heap.size, 1, none⟩)), (4, 63, .int .i64 mg), (5, 64, .agg #[.int .i64 (wh mg), .int .u64 (wl mg)]), (6, 9, .pointer (some ⟨b0, 0, none⟩)), (7, 10, .pointer (some ⟨b1, 0, none⟩))] _) _
        rw [← hV]
        refine wpOp_of (by simp only [List.getElem?_toArray, List.getElem?_cons_succ, List.getElem?_cons_zero]; rfl) rfl ?_
        have eE : ∀ (args : Array Value) (w : World), (callFunc 7 args).run Try.prog w = .ok (.enter 7 args) w := enters_of Try.func7 (by kernel_rfl) rfl
        refine wp_call (f := 7) (args := #[.int .i64 ml]) ?_ ((Hcl.out x).mono ?_)
        · clear hV hV0
          simp only [execOp, Go.resolve, List.map_toArray, List.map_cons, List.map_nil]
          rw [ev60 _ (by first | rfl | decide | (simp; done))]
          first | (simp [go_sem, eE]; done) | (simp [go_sem, eE, *]; done)
        · rintro e w_ ⟨rfl, hk2⟩
          refine ⟨(b0, b1), ((putL_set (by omega) hnn N1 N2 (by rw [hV]; exact List.mem_of_getElem? (i := 2) rfl)).symm.trans (by rw [hV0])), by simp [hl], hk.trans hk2, ?_, ?_, ?_, ?_, ?_⟩
          · intro q
            rw [g6] at q
            obtain ⟨t1, t2, t3⟩ := h6 q
            exact ⟨t1, fun z => OwnB.kept hk2 (t2 (by rwa [g8] at z)), fun z => OwnB.kept hk2 (t3 (by rwa [g8] at z))⟩
          · intro q
            rw [g7] at q
            obtain ⟨t1, t2, t3⟩ := h7 q
            exact ⟨t1, fun z => OwnB.kept hk2 (t2 (by rwa [g9] at z)), fun z => OwnB.kept hk2 (t3 (by rwa [g9] at z))⟩
          all_goals (simp only [g6, g7, g8, g9]; assumption)
      · -- 3
        have ev7 : ∀ (A : Act), A.eval (.tmp 7) = (.pointer (some ⟨w3.heap.size, 0, none⟩)) → (putL l V A).eval (.tmp 7) = (.pointer (some ⟨w3.heap.size, 0, none⟩)) := fun A h => (putL_eval_out (by rw [hV]; show 7 ∉ ([59, 60, 61, 62, 63, 64, 9, 10] : List Nat); decide)).trans h
        have g6 : (l.setIfInBounds 3 true).getD 6 false = l.getD 6 false := getD_set_ne false (by decide)
        have g7 : (l.setIfInBounds 3 true).getD 7 false = l.getD 7 false := getD_set_ne false (by decide)
        have g8 : (l.setIfInBounds 3 true).getD 8 false = l.getD 8 false := getD_set_ne false (by decide)
        have g9 : (l.setIfInBounds 3 true).getD 9 false = l.getD 9 false := getD_set_ne false (by decide)
        change wpOp _ _ _ _ _ (putL l [(0, 59, .pointer (some ⟨w3.heap.size, 0, none⟩)), (1, 60, .int .i64 ml), (2, 61, .agg #[.int .i64 (wh ml), .int .u64 (wl ml)]), (3, 62, .pointer (some ⟨w3.heap.size, 1, none⟩)), (4, 63, .int .i64 mg), (5, 64, .agg #[.int .i64 (wh mg), .int .u64 (wl mg)]), (6, 9, .pointer (some ⟨b0, 0, none⟩)), (7, 10, .pointer (some ⟨b1, 0, none⟩))] _) _
        rw [← hV]
        refine wpOp_of (by simp only [List.getElem?_toArray, List.getElem?_cons_succ, List.getElem?_cons_zero]; rfl) rfl ?_
        refine wp_value (v := .pointer (some ⟨w3.heap.size, 1, none⟩)) (w' := x) ?_ ⟨(b0, b1), ((putL_set (by omega) hnn N1 N2 (by rw [hV]; exact List.mem_of_getElem? (i := 3) rfl)).symm.trans (by rw [hV0])), by simp [hl], hk, ?_, ?_, ?_, ?_, ?_⟩
        · clear hV hV0
          simp only [execOp, Go.resolve, List.map_toArray, List.map_cons, List.map_nil]
          rw [ev7 _ (by first | rfl | decide | (simp; done))]
          first | (simp [go_sem]; done) | (simp [go_sem, *]; done)
        all_goals (simp only [g6, g7, g8, g9]; assumption)
      · -- 4
        have ev62 : ∀ (A : Act), 62 < A.tmps.size → (putL l V A).eval (.tmp 62) = (.pointer (some ⟨w3.heap.size, 1, none⟩)) := fun A h => putL_eval (i := 3) (ready_on hi (by kernel_rfl)) N2 (by rw [hV]; exact List.mem_of_getElem? (i := 3) rfl) h
        have g6 : (l.setIfInBounds 4 true).getD 6 false = l.getD 6 false := getD_set_ne false (by decide)
        have g7 : (l.setIfInBounds 4 true).getD 7 false = l.getD 7 false := getD_set_ne false (by decide)
        have g8 : (l.setIfInBounds 4 true).getD 8 false = l.getD 8 false := getD_set_ne false (by decide)
        have g9 : (l.setIfInBounds 4 true).getD 9 false = l.getD 9 false := getD_set_ne false (by decide)
        change wpOp _ _ _ _ _ (putL l [(0, 59, .pointer (some ⟨w3.heap.size, 0, none⟩)), (1, 60, .int .i64 ml), (2, 61, .agg #[.int .i64 (wh ml), .int .u64 (wl ml)]), (3, 62, .pointer (some ⟨w3.heap.size, 1, none⟩)), (4, 63, .int .i64 mg), (5, 64, .agg #[.int .i64 (wh mg), .int .u64 (wl mg)]), (6, 9, .pointer (some ⟨b0, 0, none⟩)), (7, 10, .pointer (some ⟨b1, 0, none⟩))] _) _
        rw [← hV]
        refine wpOp_of (by simp only [List.getElem?_toArray, List.getElem?_cons_succ, List.getElem?_cons_zero]; rfl) rfl ?_
        refine wp_value (v := .int .i64 mg) (w' := x) ?_ ⟨(b0, b1), ((putL_set (by omega) hnn N1 N2 (by rw [hV]; exact List.mem_of_getElem? (i := 4) rfl)).symm.trans (by rw [hV0])), by simp [hl], hk, ?_, ?_, ?_, ?_, ?_⟩
        · clear hV hV0
          simp only [execOp, Go.resolve, List.map_toArray, List.map_cons, List.map_nil]
          rw [ev62 _ (by first | rfl | decide | (simp; done))]
          obtain ⟨oz, og, oc0, oc1, _⟩ := OwnB.kept hk HB0_3.out
          first | (simp [go_sem]; done) | (simp [go_sem, *]; done)
        all_goals (simp only [g6, g7, g8, g9]; assumption)
      · -- 5
        have ev63 : ∀ (A : Act), 63 < A.tmps.size → (putL l V A).eval (.tmp 63) = (.int .i64 mg) := fun A h => putL_eval (i := 4) (ready_on hi (by kernel_rfl)) N2 (by rw [hV]; exact List.mem_of_getElem? (i := 4) rfl) h
        have g6 : (l.setIfInBounds 5 true).getD 6 false = l.getD 6 false := getD_set_ne false (by decide)
        have g7 : (l.setIfInBounds 5 true).getD 7 false = l.getD 7 false := getD_set_ne false (by decide)
        have g8 : (l.setIfInBounds 5 true).getD 8 false = l.getD 8 false := getD_set_ne false (by decide)
        have g9 : (l.setIfInBounds 5 true).getD 9 false = l.getD 9 false := getD_set_ne false (by decide)
        change wpOp _ _ _ _ _ (putL l [(0, 59, .pointer (some ⟨w3.heap.size, 0, none⟩)), (1, 60, .int .i64 ml), (2, 61, .agg #[.int .i64 (wh ml), .int .u64 (wl ml)]), (3, 62, .pointer (some ⟨w3.heap.size, 1, none⟩)), (4, 63, .int .i64 mg), (5, 64, .agg #[.int .i64 (wh mg), .int .u64 (wl mg)]), (6, 9, .pointer (some ⟨b0, 0, none⟩)), (7, 10, .pointer (some ⟨b1, 0, none⟩))] _) _
        rw [← hV]
        refine wpOp_of (by simp only [List.getElem?_toArray, List.getElem?_cons_succ, List.getElem?_cons_zero]; rfl) rfl ?_
        have eE : ∀ (args : Array Value) (w : World), (callFunc 7 args).run Try.prog w = .ok (.enter 7 args) w := enters_of Try.func7 (by kernel_rfl) rfl
        refine wp_call (f := 7) (args := #[.int .i64 mg]) ?_ ((Hcg.out x).mono ?_)
        · clear hV hV0
          simp only [execOp, Go.resolve, List.map_toArray, List.map_cons, List.map_nil]
          rw [ev63 _ (by first | rfl | decide | (simp; done))]
          first | (simp [go_sem, eE]; done) | (simp [go_sem, eE, *]; done)
        · rintro e w_ ⟨rfl, hk2⟩
          refine ⟨(b0, b1), ((putL_set (by omega) hnn N1 N2 (by rw [hV]; exact List.mem_of_getElem? (i := 5) rfl)).symm.trans (by rw [hV0])), by simp [hl], hk.trans hk2, ?_, ?_, ?_, ?_, ?_⟩
          · intro q
            rw [g6] at q
            obtain ⟨t1, t2, t3⟩ := h6 q
            exact ⟨t1, fun z => OwnB.kept hk2 (t2 (by rwa [g8] at z)), fun z => OwnB.kept hk2 (t3 (by rwa [g8] at z))⟩
          · intro q
            rw [g7] at q
            obtain ⟨t1, t2, t3⟩ := h7 q
            exact ⟨t1, fun z => OwnB.kept hk2 (t2 (by rwa [g9] at z)), fun z => OwnB.kept hk2 (t3 (by rwa [g9] at z))⟩
          all_goals (simp only [g6, g7, g8, g9]; assumption)
      · -- 6
        have g7 : (l.setIfInBounds 6 true).getD 7 false = l.getD 7 false := getD_set_ne false (by decide)
        have g8 : (l.setIfInBounds 6 true).getD 8 false = l.getD 8 false := getD_set_ne false (by decide)
        have g9 : (l.setIfInBounds 6 true).getD 9 false = l.getD 9 false := getD_set_ne false (by decide)
        change wpOp _ _ _ _ _ (putL l [(0, 59, .pointer (some ⟨w3.heap.size, 0, none⟩)), (1, 60, .int .i64 ml), (2, 61, .agg #[.int .i64 (wh ml), .int .u64 (wl ml)]), (3, 62, .pointer (some ⟨w3.heap.size, 1, none⟩)), (4, 63, .int .i64 mg), (5, 64, .agg #[.int .i64 (wh mg), .int .u64 (wl mg)]), (6, 9, .pointer (some ⟨b0, 0, none⟩)), (7, 10, .pointer (some ⟨b1, 0, none⟩))] _) _
        rw [← hV]
        refine wpOp_of (by simp only [List.getElem?_toArray, List.getElem?_cons_succ, List.getElem?_cons_zero]; rfl) rfl ?_
        have gi : (l.setIfInBounds 6 true).getD 6 false = true := by simp [show 6 < l.size by omega]
        have hs8 : l.getD 8 false = false := by
          cases hc : l.getD 8 false with
          | false => rfl
          | true => have := d6 hc; rw [hnn] at this; cases this
        obtain ⟨V2, hV2⟩ : ∃ V2 : List (Nat × Nat × Value), V2 = [(0, 59, .pointer (some ⟨w3.heap.size, 0, none⟩)), (1, 60, .int .i64 ml), (2, 61, .agg #[.int .i64 (wh ml), .int .u64 (wl ml)]), (3, 62, .pointer (some ⟨w3.heap.size, 1, none⟩)), (4, 63, .int .i64 mg), (5, 64, .agg #[.int .i64 (wh mg), .int .u64 (wl mg)]), (6, 9, .pointer (some ⟨x.heap.size, 0, none⟩)), (7, 10, .pointer (some ⟨b1, 0, none⟩))] := ⟨_, rfl⟩
        have M1 : (V2.map (·.1)).Nodup := by rw [hV2]; show ([0, 1, 2, 3, 4, 5, 6, 7] : List Nat).Nodup; decide
        have M2 : (V2.map (·.2.1)).Nodup := by rw [hV2]; show ([59, 60, 61, 62, 63, 64, 9, 10] : List Nat).Nodup; decide
        have hcg : ∀ A : Act, putL l V2 A = putL l V A := fun A => by rw [hV2, hV]; exact putL_mid hnn _ [(0, 59, .pointer (some ⟨w3.heap.size, 0, none⟩)), (1, 60, .int .i64 ml), (2, 61, .agg #[.int .i64 (wh ml), .int .u64 (wl ml)]), (3, 62, .pointer (some ⟨w3.heap.size, 1, none⟩)), (4, 63, .int .i64 mg), (5, 64, .agg #[.int .i64 (wh mg), .int .u64 (wl mg)])] [(7, 10, .pointer (some ⟨b1, 0, none⟩))]
        refine wp_value (v := .pointer (some ⟨x.heap.size, 0, none⟩)) (w' := x.alloc (.cells #[.int .i64 0, .int .u64 0] 30)) ?_ ⟨(x.heap.size, b1), (show _ = putL (l.setIfInBounds 6 true) [(0, 59, .pointer (some ⟨w3.heap.size, 0, none⟩)), (1, 60, .int .i64 ml), (2, 61, .agg #[.int .i64 (wh ml), .int .u64 (wl ml)]), (3, 62, .pointer (some ⟨w3.heap.size, 1, none⟩)), (4, 63, .int .i64 mg), (5, 64, .agg #[.int .i64 (wh mg), .int .u64 (wl mg)]), (6, 9, .pointer (some ⟨x.heap.size, 0, none⟩)), (7, 10, .pointer (some ⟨b1, 0, none⟩))] _ by rw [← hV2, putL_set (by omega) hnn M1 M2 (by rw [hV2]; exact List.mem_of_getElem? (i := 6) rfl), hcg]), by simp [hl], hk.alloc _, ?_, ?_, ?_, ?_, ?_⟩
        · clear hV hV0 hV2
          simp only [execOp]
          first | (simp [go_sem]; done) | (simp [go_sem, *]; done)
        · intro _
          refine ⟨hk.size, fun q => ?_, fun _ => own_alloc x [.int .i64 0, .int .u64 0] 30⟩
          rw [g8, hs8] at q; cases q
        · intro q
          rw [g7] at q
          obtain ⟨q1, q2, q3⟩ := h7 q
          exact ⟨q1, fun z => OwnB.alloc (q2 (by rwa [g9] at z)) _, fun z => OwnB.alloc (q3 (by rwa [g9] at z)) _⟩
        · intro qa qb
          have qo : l.getD 7 false = true := by first | (rwa [g7] at qa) | (rwa [g7] at qb)
          obtain ⟨_, q2, q3⟩ := h7 qo
          have lt : b1 < x.heap.size := by
            cases hc : l.getD 9 false with
            | true => exact (q2 hc).1
            | false => exact (q3 hc).1
          (try simp only []); omega
        · intro _; exact gi
        · simp only [g7, g8, g9]; assumption
      · -- 7
        have g6 : (l.setIfInBounds 7 true).getD 6 false = l.getD 6 false := getD_set_ne false (by decide)
        have g8 : (l.setIfInBounds 7 true).getD 8 false = l.getD 8 false := getD_set_ne false (by decide)
        have g9 : (l.setIfInBounds 7 true).getD 9 false = l.getD 9 false := getD_set_ne false (by decide)
        change wpOp _ _ _ _ _ (putL l [(0, 59, .pointer (some ⟨w3.heap.size, 0, none⟩)), (1, 60, .int .i64 ml), (2, 61, .agg #[.int .i64 (wh ml), .int .u64 (wl ml)]), (3, 62, .pointer (some ⟨w3.heap.size, 1, none⟩)), (4, 63, .int .i64 mg), (5, 64, .agg #[.int .i64 (wh mg), .int .u64 (wl mg)]), (6, 9, .pointer (some ⟨b0, 0, none⟩)), (7, 10, .pointer (some ⟨b1, 0, none⟩))] _) _
        rw [← hV]
        refine wpOp_of (by simp only [List.getElem?_toArray, List.getElem?_cons_succ, List.getElem?_cons_zero]; rfl) rfl ?_
        have gi : (l.setIfInBounds 7 true).getD 7 false = true := by simp [show 7 < l.size by omega]
        have hs9 : l.getD 9 false = false := by
          cases hc : l.getD 9 false with
          | false => rfl
          | true => have := d7 hc; rw [hnn] at this; cases this
        obtain ⟨V2, hV2⟩ : ∃ V2 : List (Nat × Nat × Value), V2 = [(0, 59, .pointer (some ⟨w3.heap.size, 0, none⟩)), (1, 60, .int .i64 ml), (2, 61, .agg #[.int .i64 (wh ml), .int .u64 (wl ml)]), (3, 62, .pointer (some ⟨w3.heap.size, 1, none⟩)), (4, 63, .int .i64 mg), (5, 64, .agg #[.int .i64 (wh mg), .int .u64 (wl mg)]), (6, 9, .pointer (some ⟨b0, 0, none⟩)), (7, 10, .pointer (some ⟨x.heap.size, 0, none⟩))] := ⟨_, rfl⟩
        have M1 : (V2.map (·.1)).Nodup := by rw [hV2]; show ([0, 1, 2, 3, 4, 5, 6, 7] : List Nat).Nodup; decide
        have M2 : (V2.map (·.2.1)).Nodup := by rw [hV2]; show ([59, 60, 61, 62, 63, 64, 9, 10] : List Nat).Nodup; decide
        have hcg : ∀ A : Act, putL l V2 A = putL l V A := fun A => by rw [hV2, hV]; exact putL_mid hnn _ [(0, 59, .pointer (some ⟨w3.heap.size, 0, none⟩)), (1, 60, .int .i64 ml), (2, 61, .agg #[.int .i64 (wh ml), .int .u64 (wl ml)]), (3, 62, .pointer (some ⟨w3.heap.size, 1, none⟩)), (4, 63, .int .i64 mg), (5, 64, .agg #[.int .i64 (wh mg), .int .u64 (wl mg)]), (6, 9, .pointer (some ⟨b0, 0, none⟩))] []
        refine wp_value (v := .pointer (some ⟨x.heap.size, 0, none⟩)) (w' := x.alloc (.cells #[.int .i64 0, .int .u64 0] 30)) ?_ ⟨(b0, x.heap.size), (show _ = putL (l.setIfInBounds 7 true) [(0, 59, .pointer (some ⟨w3.heap.size, 0, none⟩)), (1, 60, .int .i64 ml), (2, 61, .agg #[.int .i64 (wh ml), .int .u64 (wl ml)]), (3, 62, .pointer (some ⟨w3.heap.size, 1, none⟩)), (4, 63, .int .i64 mg), (5, 64, .agg #[.int .i64 (wh mg), .int .u64 (wl mg)]), (6, 9, .pointer (some ⟨b0, 0, none⟩)), (7, 10, .pointer (some ⟨x.heap.size, 0, none⟩))] _ by rw [← hV2, putL_set (by omega) hnn M1 M2 (by rw [hV2]; exact List.mem_of_getElem? (i := 7) rfl), hcg]), by simp [hl], hk.alloc _, ?_, ?_, ?_, ?_, ?_⟩
        · clear hV hV0 hV2
          simp only [execOp]
          first | (simp [go_sem]; done) | (simp [go_sem, *]; done)
        · intro q
          rw [g6] at q
          obtain ⟨q1, q2, q3⟩ := h6 q
          exact ⟨q1, fun z => OwnB.alloc (q2 (by rwa [g8] at z)) _, fun z => OwnB.alloc (q3 (by rwa [g8] at z)) _⟩
        · intro _
          refine ⟨hk.size, fun q => ?_, fun _ => own_alloc x [.int .i64 0, .int .u64 0] 30⟩
          rw [g9, hs9] at q; cases q
        · intro qa qb
          have qo : l.getD 6 false = true := by first | (rwa [g6] at qa) | (rwa [g6] at qb)
          obtain ⟨_, q2, q3⟩ := h6 qo
          have lt : b0 < x.heap.size := by
            cases hc : l.getD 8 false with
            | true => exact (q2 hc).1
            | false => exact (q3 hc).1
          (try simp only []); omega
        · simp only [g6, g8, g9]; assumption
        · intro _; exact gi
      · -- 8
        have ev9 : ∀ (A : Act), 9 < A.tmps.size → (putL l V A).eval (.tmp 9) = (.pointer (some ⟨b0, 0, none⟩)) := fun A h => putL_eval (i := 6) (ready_on hi (by kernel_rfl)) N2 (by rw [hV]; exact List.mem_of_getElem? (i := 6) rfl) h
        have ev61 : ∀ (A : Act), 61 < A.tmps.size → (putL l V A).eval (.tmp 61) = (.agg #[.int .i64 (wh ml), .int .u64 (wl ml)]) := fun A h => putL_eval (i := 2) (ready_on hi (by kernel_rfl)) N2 (by rw [hV]; exact List.mem_of_getElem? (i := 2) rfl) h
        have g6 : (l.setIfInBounds 8 true).getD 6 false = l.getD 6 false := getD_set_ne false (by decide)
        have g7 : (l.setIfInBounds 8 true).getD 7 false = l.getD 7 false := getD_set_ne false (by decide)
        have g9 : (l.setIfInBounds 8 true).getD 9 false = l.getD 9 false := getD_set_ne false (by decide)
        change wpOp _ _ _ _ _ (putL l [(0, 59, .pointer (some ⟨w3.heap.size, 0, none⟩)), (1, 60, .int .i64 ml), (2, 61, .agg #[.int .i64 (wh ml), .int .u64 (wl ml)]), (3, 62, .pointer (some ⟨w3.heap.size, 1, none⟩)), (4, 63, .int .i64 mg), (5, 64, .agg #[.int .i64 (wh mg), .int .u64 (wl mg)]), (6, 9, .pointer (some ⟨b0, 0, none⟩)), (7, 10, .pointer (some ⟨b1, 0, none⟩))] _) _
        rw [← hV]
        refine wpOp_of (by simp only [List.getElem?_toArray, List.getElem?_cons_succ, List.getElem?_cons_zero]; rfl) rfl ?_
        have gi : (l.setIfInBounds 8 true).getD 8 false = true := by simp [show 8 < l.size by omega]
        have hAL : l.getD 6 false = true := ready_on hi (by kernel_rfl)
        obtain ⟨q1, q2, q3⟩ := h6 hAL
        have OZ := q3 hnn
        refine wp_skip0 (w' := (x.setCell ⟨b0, 0, none⟩ (.int .i64 (wh ml))).setCell ⟨b0, 1, none⟩ (.int .u64 (wl ml))) rfl ?_ ⟨(b0, b1), ((putL_out (l := l) (i := 8) (vs := V) (by rw [hV]; show 8 ∉ ([0, 1, 2, 3, 4, 5, 6, 7] : List Nat); decide)).symm.trans (by rw [hV0])), by simp [hl], (by repeat (first | with_reducible exact hk | with_reducible refine Kept.setCell ?_ q1 _)), ?_, ?_, ?_, ?_, ?_⟩
        · clear hV hV0
          simp only [execOp, Go.resolve, List.map_toArray, List.map_cons, List.map_nil]
          rw [ev9 _ (by first | rfl | decide | (simp; done))]
          rw [ev61 _ (by first | rfl | decide | (simp; done))]
          obtain ⟨oz, og, oc0, oc1, _⟩ := OZ
          first | (simp [go_sem, og, oc0, oc1]; done) | (simp [go_sem, *]; done)
        · intro _
          refine ⟨q1, fun _ => own_set2 (us := [.int .i64 0, .int .u64 0]) OZ rfl, fun z => ?_⟩
          rw [gi] at z; cases z
        · intro q
          rw [g7] at q
          obtain ⟨t1, t2, t3⟩ := h7 q
          have hne : b1 ≠ b0 := by
            first | exact e6_7 hAL q | exact (e6_7 q hAL) | exact (e6_7 hAL q).symm | exact (e6_7 q hAL).symm
          exact ⟨t1, fun z => OwnB.setOther (OwnB.setOther (t2 (by rwa [g9] at z)) hne) hne, fun z => OwnB.setOther (OwnB.setOther (t3 (by rwa [g9] at z)) hne) hne⟩
        · simp only [g6, g7, g9]; assumption
        · intro _; rw [g6]; exact hAL
        · simp only [g6, g7, g9]; assumption
      · -- 9
        have ev10 : ∀ (A : Act), 10 < A.tmps.size → (putL l V A).eval (.tmp 10) = (.pointer (some ⟨b1, 0, none⟩)) := fun A h => putL_eval (i := 7) (ready_on hi (by kernel_rfl)) N2 (by rw [hV]; exact List.mem_of_getElem? (i := 7) rfl) h
        have ev64 : ∀ (A : Act), 64 < A.tmps.size → (putL l V A).eval (.tmp 64) = (.agg #[.int .i64 (wh mg), .int .u64 (wl mg)]) := fun A h => putL_eval (i := 5) (ready_on hi (by kernel_rfl)) N2 (by rw [hV]; exact List.mem_of_getElem? (i := 5) rfl) h
        have g6 : (l.setIfInBounds 9 true).getD 6 false = l.getD 6 false := getD_set_ne false (by decide)
        have g7 : (l.setIfInBounds 9 true).getD 7 false = l.getD 7 false := getD_set_ne false (by decide)
        have g8 : (l.setIfInBounds 9 true).getD 8 false = l.getD 8 false := getD_set_ne false (by decide)
        change wpOp _ _ _ _ _ (putL l [(0, 59, .pointer (some ⟨w3.heap.size, 0, none⟩)), (1, 60, .int .i64 ml), (2, 61, .agg #[.int .i64 (wh ml), .int .u64 (wl ml)]), (3, 62, .pointer (some ⟨w3.heap.size, 1, none⟩)), (4, 63, .int .i64 mg), (5, 64, .agg #[.int .i64 (wh mg), .int .u64 (wl mg)]), (6, 9, .pointer (some ⟨b0, 0, none⟩)), (7, 10, .pointer (some ⟨b1, 0, none⟩))] _) _
        rw [← hV]
        refine wpOp_of (by simp only [List.getElem?_toArray, List.getElem?_cons_succ, List.getElem?_cons_zero]; rfl) rfl ?_
        have gi : (l.setIfInBounds 9 true).getD 9 false = true := by simp [show 9 < l.size by omega]
        have hAL : l.getD 7 false = true := ready_on hi (by kernel_rfl)
        obtain ⟨q1, q2, q3⟩ := h7 hAL
        have OZ := q3 hnn
        refine wp_skip0 (w' := (x.setCell ⟨b1, 0, none⟩ (.int .i64 (wh mg))).setCell ⟨b1, 1, none⟩ (.int .u64 (wl mg))) rfl ?_ ⟨(b0, b1), ((putL_out (l := l) (i := 9) (vs := V) (by rw [hV]; show 9 ∉ ([0, 1, 2, 3, 4, 5, 6, 7] : List Nat); decide)).symm.trans (by rw [hV0])), by simp [hl], (by repeat (first | with_reducible exact hk | with_reducible refine Kept.setCell ?_ q1 _)), ?_, ?_, ?_, ?_, ?_⟩
        · clear hV hV0
          simp only [execOp, Go.resolve, List.map_toArray, List.map_cons, List.map_nil]
          rw [ev10 _ (by first | rfl | decide | (simp; done))]
          rw [ev64 _ (by first | rfl | decide | (simp; done))]
          obtain ⟨oz, og, oc0, oc1, _⟩ := OZ
          first | (simp [go_sem, og, oc0, oc1]; done) | (simp [go_sem, *]; done)
        · intro q
          rw [g6] at q
          obtain ⟨t1, t2, t3⟩ := h6 q
          have hne : b0 ≠ b1 := by
            first | exact e6_7 hAL q | exact (e6_7 q hAL) | exact (e6_7 hAL q).symm | exact (e6_7 q hAL).symm
          exact ⟨t1, fun z => OwnB.setOther (OwnB.setOther (t2 (by rwa [g8] at z)) hne) hne, fun z => OwnB.setOther (OwnB.setOther (t3 (by rwa [g8] at z)) hne) hne⟩
        · intro _
          refine ⟨q1, fun _ => own_set2 (us := [.int .i64 0, .int .u64 0]) OZ rfl, fun z => ?_⟩
          rw [gi] at z; cases z
        · simp only [g6, g7, g8]; assumption
        · simp only [g6, g7, g8]; assumption
        · intro _; rw [g7]; exact hAL
    · rintro ⟨b0, b1⟩ l x hr ⟨hl, hk, h6, h7, e6_7, d6, d7⟩
      have HL := all_listed hr (by rw [hl]; rfl) (acyc_of (by kernel_rfl)) 10
      have g0 := HL 0 (by omega) (by show 0 < 10; omega)
      have g1 := HL 1 (by omega) (by show 1 < 10; omega)
      have g2 := HL 2 (by omega) (by show 2 < 10; omega)
      have g3 := HL 3 (by omega) (by show 3 < 10; omega)
      have g4 := HL 4 (by omega) (by show 4 < 10; omega)
      have g5 := HL 5 (by omega) (by show 5 < 10; omega)
      have g6 := HL 6 (by omega) (by show 6 < 10; omega)
      have g7 := HL 7 (by omega) (by show 7 < 10; omega)
      have g8 := HL 8 (by omega) (by show 8 < 10; omega)
      have g9 := HL 9 (by omega) (by show 9 < 10; omega)
      have zl0 : (w3.alloc (.cells #[.int .i64 ml, .int .i64 mg] 23)).heap.size ≤ b0 := (h6 g6).1
      have zp0 : OwnB x b0 [.int .i64 (wh ml), .int .u64 (wl ml)] := (h6 g6).2.1 g8
      have zl1 : (w3.alloc (.cells #[.int .i64 ml, .int .i64 mg] 23)).heap.size ≤ b1 := (h7 g7).1
      have zp1 : OwnB x b1 [.int .i64 (wh mg), .int .u64 (wl mg)] := (h7 g7).2.1 g9
      have zn0 : b0 ≠ b1 := e6_7 g6 g7
      clear HL hr h6 h7 e6_7 d6 d7
      simp only [putL, g0, g1, g2, g3, g4, g5, g6, g7, if_true]
      clear g0 g1 g2 g3 g4 g5 g6 g7 g8 g9
      have zb := HB0_3.out.1
      simp only [Act.put, List.setIfInBounds_toArray, List.set_cons_succ, List.set_cons_zero]
      refine hM_ _ _ (Met.intro (hR_ _ _ ?_))
      repeat apply Exists.intro
      refine ⟨?rel, rfl⟩
      case rel => exact ⟨b0, b1, rfl, rfl, by omega, by omega, Ne.symm zn0, zp0, zp1, OwnB.kept hk HB0_0.out, OwnB.kept hk HB0_1.out, OwnB.kept hk HB0_2.out, OwnB.kept hk HB0_3.out, hk⟩
  case rest =>
  obtain ⟨b1_0, b1_1, rfl, rfl, lt1_0, lt1_1, ne1_1_0, O1_0, O1_1, O1_2, O1_3, O1_4, O1_5, hkc1⟩ := hcut
  obtain ⟨hz_c1_0, hg_c1_0, hf_c1_0_0, hf_c1_0_1, _⟩ := O1_0
  obtain ⟨hz_c1_1, hg_c1_1, hf_c1_1_0, hf_c1_1_1, _⟩ := O1_1
  obtain ⟨hz_c1_2, hg_c1_2, hf_c1_2_0, hf_c1_2_1, _⟩ := O1_2
  obtain ⟨hz_c1_3, hg_c1_3, hf_c1_3_0, hf_c1_3_1, _⟩ := O1_3
  obtain ⟨hz_c1_4, hg_c1_4, hf_c1_4_0, hf_c1_4_1, _⟩ := O1_4
  obtain ⟨hz_c1_5, hg_c1_5, hf_c1_5_0, hf_c1_5_1, _⟩ := O1_5
  try clear hf3_0_0
  try clear hf3_0_1
  try clear hf3_1_0
  try clear hf3_1_1
  try clear hf3_2_0
  try clear hf3_2_1
  try clear hg3_0
  try clear hg3_1
  try clear hg3_2
  try clear hz3_1
  try clear hz3_2
  have B0 : OwnB wc (b1_0) [.int .i64 (wh ml), .int .u64 (wl ml)] := ⟨hz_c1_0, hg_c1_0, hf_c1_0_0, hf_c1_0_1, trivial⟩
  have HB1_0 := Lib.hid B0
  clear B0
  have B1 : OwnB wc (b1_1) [.int .i64 (wh mg), .int .u64 (wl mg)] := ⟨hz_c1_1, hg_c1_1, hf_c1_1_0, hf_c1_1_1, trivial⟩
  have HB1_1 := Lib.hid B1
  clear B1
  have B2 : OwnB wc (w.heap.size) [.int .i64 a, .int .i64 b] := ⟨hz_c1_2, hg_c1_2, hf_c1_2_0, hf_c1_2_1, trivial⟩
  have HB1_2 := Lib.hid B2
  clear B2
  have B3 : OwnB wc (w.heap.size + 1) [.int .i64 c, .int .i64 d] := ⟨hz_c1_3, hg_c1_3, hf_c1_3_0, hf_c1_3_1, trivial⟩
  have HB1_3 := Lib.hid B3
  clear B3
  have B4 : OwnB wc (w2.heap.size) [.int .i64 al, .int .i64 ag] := ⟨hz_c1_4, hg_c1_4, hf_c1_4_0, hf_c1_4_1, trivial⟩
  have HB1_4 := Lib.hid B4
  clear B4
  have B5 : OwnB wc (w3.heap.size) [.int .i64 ml, .int .i64 mg] := ⟨hz_c1_5, hg_c1_5, hf_c1_5_0, hf_c1_5_1, trivial⟩
  have HB1_5 := Lib.hid B5
  clear B5
  go_upto_region 10 with (fail)
  go_cut [11, 12, 13, 14] (fun p0 p1 p2 p3 wx => ∃ b0 b1 b2 b3 : Nat, p0 = .pointer (some ⟨b0, 0, none⟩) ∧ p1 = .pointer (some ⟨b1, 0, none⟩) ∧ p2 = .pointer (some ⟨b2, 0, none⟩) ∧ p3 = .pointer (some ⟨b3, 0, none⟩) ∧ b1_1 < b0 ∧ b1_1 < b1 ∧ b1_1 < b2 ∧ b1_1 < b3 ∧ b1 ≠ b0 ∧ b2 ≠ b0 ∧ b2 ≠ b1 ∧ b3 ≠ b0 ∧ b3 ≠ b1 ∧ b3 ≠ b2 ∧ OwnB wx (b0) [.int .i64 (wh v0), .int .u64 (wl v0)] ∧ OwnB wx (b1) [.int .i64 (wh v1), .int .u64 (wl v1)] ∧ OwnB wx (b2) [.int .i64 (wh v2), .int .u64 (wl v2)] ∧ OwnB wx (b3) [.int .i64 (wh v3), .int .u64 (wl v3)] ∧ OwnB wx (b1_0) [.int .i64 (wh ml), .int .u64 (wl ml)] ∧ OwnB wx (b1_1) [.int .i64 (wh mg), .int .u64 (wl mg)] ∧ OwnB wx (w.heap.size) [.int .i64 a, .int .i64 b] ∧ OwnB wx (w.heap.size + 1) [.int .i64 c, .int .i64 d] ∧ OwnB wx (w2.heap.size) [.int .i64 al, .int .i64 ag] ∧ OwnB wx (w3.heap.size) [.int .i64 ml, .int .i64 mg] ∧ Kept wc wx)
  case first =>
    rename_i J_ K_ hR_ hM_
    refine region_put (by kernel_rfl) (X := Nat × Nat × Nat × Nat) (fun p => [(0, 65, .pointer (some ⟨w.heap.size, 0, none⟩)), (1, 66, .int .i64 a), (2, 67, .pointer (some ⟨w.heap.size + 1, 0, none⟩)), (3, 68, .int .i64 c), (4, 69, .agg #[.int .i64 (wh v0), .int .u64 (wl v0)]), (5, 70, .pointer (some ⟨w.heap.size, 0, none⟩)), (6, 71, .int .i64 a), (7, 72, .pointer (some ⟨w.heap.size + 1, 1, none⟩)), (8, 73, .int .i64 d), (9, 74, .agg #[.int .i64 (wh v1), .int .u64 (wl v1)]), (10, 75, .pointer (some ⟨w.heap.size, 1, none⟩)), (11, 76, .int .i64 b), (12, 77, .pointer (some ⟨w.heap.size + 1, 0, none⟩)), (13, 78, .int .i64 c), (14, 79, .agg #[.int .i64 (wh v2), .int .u64 (wl v2)]), (15, 80, .pointer (some ⟨w.heap.size, 1, none⟩)), (16, 81, .int .i64 b), (17, 82, .pointer (some ⟨w.heap.size + 1, 1, none⟩)), (18, 83, .int .i64 d), (19, 84, .agg #[.int .i64 (wh v3), .int .u64 (wl v3)]), (20, 11, .pointer (some ⟨p.1, 0, none⟩)), (21, 12, .pointer (some ⟨p.2.1, 0, none⟩)), (22, 13, .pointer (some ⟨p.2.2.1, 0, none⟩)), (23, 14, .pointer (some ⟨p.2.2.2, 0, none⟩))]) (fun p l x => l.size = 28 ∧ Kept wc x ∧ (l.getD 20 false = true → wc.heap.size ≤ p.1 ∧ (l.getD 24 false = true → OwnB x p.1 [.int .i64 (wh v0), .int .u64 (wl v0)]) ∧ (l.getD 24 false = false → OwnB x p.1 [.int .i64 0, .int .u64 0])) ∧ (l.getD 21 false = true → wc.heap.size ≤ p.2.1 ∧ (l.getD 25 false = true → OwnB x p.2.1 [.int .i64 (wh v1), .int .u64 (wl v1)]) ∧ (l.getD 25 false = false → OwnB x p.2.1 [.int .i64 0, .int .u64 0])) ∧ (l.getD 22 false = true → wc.heap.size ≤ p.2.2.1 ∧ (l.getD 26 false = true → OwnB x p.2.2.1 [.int .i64 (wh v2), .int .u64 (wl v2)]) ∧ (l.getD 26 false = false → OwnB x p.2.2.1 [.int .i64 0, .int .u64 0])) ∧ (l.getD 23 false = true → wc.heap.size ≤ p.2.2.2 ∧ (l.getD 27 false = true → OwnB x p.2.2.2 [.int .i64 (wh v3), .int .u64 (wl v3)]) ∧ (l.getD 27 false = false → OwnB x p.2.2.2 [.int .i64 0, .int .u64 0])) ∧ (l.getD 20 false = true → l.getD 21 false = true → p.1 ≠ p.2.1) ∧ (l.getD 20 false = true → l.getD 22 false = true → p.1 ≠ p.2.2.1) ∧ (l.getD 21 false = true → l.getD 22 false = true → p.2.1 ≠ p.2.2.1) ∧ (l.getD 20 false = true → l.getD 23 false = true → p.1 ≠ p.2.2.2) ∧ (l.getD 21 false = true → l.getD 23 false = true → p.2.1 ≠ p.2.2.2) ∧ (l.getD 22 false = true → l.getD 23 false = true → p.2.2.1 ≠ p.2.2.2) ∧ (l.getD 24 false = true → l.getD 20 false = true) ∧ (l.getD 25 false = true → l.getD 21 false = true) ∧ (l.getD 26 false = true → l.getD 22 false = true) ∧ (l.getD 27 false = true → l.getD 23 false = true)) (0, 0, 0, 0) ?_ ?_ ?_
    · exact ⟨by simp, (Kept.refl _).drew, (fun h => by simp at h), (fun h => by simp at h), (fun h => by simp at h), (fun h => by simp at h), (fun h => by simp at h), (fun h => by simp at h), (fun h => by simp at h), (fun h => by simp at h), (fun h => by simp at h), (fun h => by simp at h), (fun h => by simp at h), (fun h => by simp at h), (fun h => by simp at h), (fun h => by simp at h)⟩
    · rintro ⟨b0, b1, b2, b3⟩ l x i hi ⟨hl, hk, h20, h21, h22, h23, e20_21, e20_22, e21_22, e20_23, e21_23, e22_23, d20, d21, d22, d23⟩
      have hlt : i < 28 := (ready_lt hi).1
      have hnn : l.getD i false = false := (ready_not hi).resolve_right (by omega)
      obtain ⟨V, hV0⟩ : ∃ V : List (Nat × Nat × Value), V = (fun p => [(0, 65, .pointer (some ⟨w.heap.size, 0, none⟩)), (1, 66, .int .i64 a), (2, 67, .pointer (some ⟨w.heap.size + 1, 0, none⟩)), (3, 68, .int .i64 c), (4, 69, .agg #[.int .i64 (wh v0), .int .u64 (wl v0)]), (5, 70, .pointer (some ⟨w.heap.size, 0, none⟩)), (6, 71, .int .i64 a), (7, 72, .pointer (some ⟨w.heap.size + 1, 1, none⟩)), (8, 73, .int .i64 d), (9, 74, .agg #[.int .i64 (wh v1), .int .u64 (wl v1)]), (10, 75, .pointer (some ⟨w.heap.size, 1, none⟩)), (11, 76, .int .i64 b), (12, 77, .pointer (some ⟨w.heap.size + 1, 0, none⟩)), (13, 78, .int .i64 c), (14, 79, .agg #[.int .i64 (wh v2), .int .u64 (wl v2)]), (15, 80, .pointer (some ⟨w.heap.size, 1, none⟩)), (16, 81, .int .i64 b), (17, 82, .pointer (some ⟨w.heap.size + 1, 1, none⟩)), (18, 83, .int .i64 d), (19, 84, .agg #[.int .i64 (wh v3), .int .u64 (wl v3)]), (20, 11, .pointer (some ⟨p.1, 0, none⟩)), (21, 12, .pointer (some ⟨p.2.1, 0, none⟩)), (22, 13, .pointer (some ⟨p.2.2.1, 0, none⟩)), (23, 14, .pointer (some ⟨p.2.2.2, 0, none⟩))]) (b0, b1, b2, b3) := ⟨_, rfl⟩
      have hV : V = [(0, 65, .pointer (some ⟨w.heap.size, 0, none⟩)), (1, 66, .int .i64 a), (2, 67, .pointer (some ⟨w.heap.size + 1, 0, none⟩)), (3, 68, .int .i64 c), (4, 69, .agg #[.int .i64 (wh v0), .int .u64 (wl v0)]), (5, 70, .pointer (some ⟨w.heap.size, 0, none⟩)), (6, 71, .int .i64 a), (7, 72, .pointer (some ⟨w.heap.size + 1, 1, none⟩)), (8, 73, .int .i64 d), (9, 74, .agg #[.int .i64 (wh v1), .int .u64 (wl v1)]), (10, 75, .pointer (some ⟨w.heap.size, 1, none⟩)), (11, 76, .int .i64 b), (12, 77, .pointer (some ⟨w.heap.size + 1, 0, none⟩)), (13, 78, .int .i64 c), (14, 79, .agg #[.int .i64 (wh v2), .int .u64 (wl v2)]), (15, 80, .pointer (some ⟨w.heap.size, 1, none⟩)), (16, 81, .int .i64 b), (17, 82, .pointer (some ⟨w.heap.size + 1, 1, none⟩)), (18, 83, .int .i64 d), (19, 84, .agg #[.int .i64 (wh v3), .int .u64 (wl v3)]), (20, 11, .pointer (some ⟨b0, 0, none⟩)), (21, 12, .pointer (some ⟨b1, 0, none⟩)), (22, 13, .pointer (some ⟨b2, 0, none⟩)), (23, 14, .pointer (some ⟨b3, 0, none⟩))] := hV0
      have N1 : (V.map (·.1)).Nodup := by rw [hV]; show ([0, 1, 2, 3, 4, 5, 6, 7, 8, 9, 10, 11, 12, 13, 14, 15, 16, 17, 18, 19, 20, 21, 22, 23] : List Nat).Nodup; decide
      have N2 : (V.map (·.2.1)).Nodup := by rw [hV]; show ([65, 66, 67, 68, 69, 70, 71, 72, 73, 74, 75, 76, 77, 78, 79, 80, 81, 82, 83, 84, 11, 12, 13, 14] : List Nat).Nodup; decide
      rcases (show i = 0 ∨ i = 1 ∨ i = 2 ∨ i = 3 ∨ i = 4 ∨ i = 5 ∨ i = 6 ∨ i = 7 ∨ i = 8 ∨ i = 9 ∨ i = 10 ∨ i = 11 ∨ i = 12 ∨ i = 13 ∨ i = 14 ∨ i = 15 ∨ i = 16 ∨ i = 17 ∨ i = 18 ∨ i = 19 ∨ i = 20 ∨ i = 21 ∨ i = 22 ∨ i = 23 ∨ i = 24 ∨ i = 25 ∨ i = 26 ∨ i = 27 by omega) with rfl | rfl | rfl | rfl | rfl | rfl | rfl | rfl | rfl | rfl | rfl | rfl | rfl | rfl | rfl | rfl | rfl | rfl | rfl | rfl | rfl | rfl | rfl | rfl | rfl | rfl | rfl | rfl
      · -- 0
        have ev2 : ∀ (A : Act), A.eval (.tmp 2) = (.pointer (some ⟨w.heap.size, 0, none⟩)) → (putL l V A).eval (.tmp 2) = (.pointer (some ⟨w.heap.size, 0, none⟩)) := fun A h => (putL_eval_out (by rw [hV]; show 2 ∉ ([65, 66, 67, 68, 69, 70, 71, 72, 73, 74, 75, 76, 77, 78, 79, 80, 81, 82, 83, 84, 11, 12, 13, 14] : List Nat); decide)).trans h
        have g20 : (l.setIfInBounds 0 true).getD 20 false = l.getD 20 false := getD_set_ne false (by decide)
        have g21 : (l.setIfInBounds 0 true).getD 21 false = l.getD 21 false := getD_set_ne false (by decide)
        have g22 : (l.setIfInBounds 0 true).getD 22 false = l.getD 22 false := getD_set_ne false (by decide)
        have g23 : (l.setIfInBounds 0 true).getD 23 false = l.getD 23 false := getD_set_ne false (by decide)
        have g24 : (l.setIfInBounds 0 true).getD 24 false = l.getD 24 false := getD_set_ne false (by decide)
        have g25 : (l.setIfInBounds 0 true).getD 25 false = l.getD 25 false := getD_set_ne false (by decide)
        have g26 : (l.setIfInBounds 0 true).getD 26 false = l.getD 26 false := getD_set_ne false (by decide)
        have g27 : (l.setIfInBounds 0 true).getD 27 false = l.getD 27 false := getD_set_ne false (by decide)
        change wpOp _ _ _ _ _ (putL l [(0, 65, .pointer (some ⟨w.heap.size, 0, none⟩)), (1, 66, .int .i64 a), (2, 67, .pointer (some ⟨w.heap.size + 1, 0, none⟩)), (3, 68, .int .i64 c), (4, 69, .agg #[.int .i64 (wh v0), .int .u64 (wl v0)]), (5, 70, .pointer (some ⟨w.heap.size, 0, none⟩)), (6, 71, .int .i64 a), (7, 72, .pointer (some ⟨w.heap.size + 1, 1, none⟩)), (8, 73, .int .i64 d), (9, 74, .agg #[.int .i64 (wh v1), .int .u64 (wl v1)]), (10, 75, .pointer (some ⟨w.heap.size, 1, none⟩)), (11, 76, .int .i64 b), (12, 77, .pointer (some ⟨w.heap.size + 1, 0, none⟩)), (13, 78, .int .i64 c), (14, 79, .agg #[.int .i64 (wh v2), .int .u64 (wl v2)]), (15, 80, .pointer (some ⟨w.heap.size, 1, none⟩)), (16, 81, .int .i64 b), (17, 82, .pointer (some ⟨w.heap.size + 1, 1, none⟩)), (18, 83, .int .i64 d), (19, 84, .agg #[.int .i64 (wh v3), .int .u64 (wl v3)]), (20, 11, .pointer (some ⟨b0, 0, none⟩)), (21, 12, .pointer (some ⟨b1, 0, none⟩)), (22, 13, .pointer (some ⟨b2, 0, none⟩)), (23, 14, .pointer (some ⟨b3, 0, none⟩))] _) _
        rw [← hV]
        refine wpOp_of (by simp only [List.getElem?_toArray, List.getElem?_cons_succ, List.getElem?_cons_zero]; rfl) rfl ?_
        refine wp_value (v := .pointer (some ⟨w.heap.size, 0, none⟩)) (w' := x) ?_ ⟨(b0, b1, b2, b3), ((putL_set (by omega) hnn N1 N2 (by rw [hV]; exact List.mem_of_getElem? (i := 0) rfl)).symm.trans (by rw [hV0])), by simp [hl], hk, ?_, ?_, ?_, ?_, ?_, ?_, ?_, ?_, ?_, ?_, ?_, ?_, ?_, ?_⟩
        · clear hV hV0
          simp only [execOp, Go.resolve, List.map_toArray, List.map_cons, List.map_nil]
          rw [ev2 _ (by first | rfl | decide | (simp; done))]
          first | (simp [go_sem]; done) | (simp [go_sem, *]; done)
        all_goals (simp only [g20, g21, g22, g23, g24, g25, g26, g27]; assumption)
      · -- 1
        have ev65 : ∀ (A : Act), 65 < A.tmps.size → (putL l V A).eval (.tmp 65) = (.pointer (some ⟨w.heap.size, 0, none⟩)) := fun A h => putL_eval (i := 0) (ready_on hi (by kernel_rfl)) N2 (by rw [hV]; exact List.mem_of_getElem? (i := 0) rfl) h
        have g20 : (l.setIfInBounds 1 true).getD 20 false = l.getD 20 false := getD_set_ne false (by decide)
        have g21 : (l.setIfInBounds 1 true).getD 21 false = l.getD 21 false := getD_set_ne false (by decide)
        have g22 : (l.setIfInBounds 1 true).getD 22 false = l.getD 22 false := getD_set_ne false (by decide)
        have g23 : (l.setIfInBounds 1 true).getD 23 false = l.getD 23 false := getD_set_ne false (by decide)
        have g24 : (l.setIfInBounds 1 true).getD 24 false = l.getD 24 false := getD_set_ne false (by decide)
        have g25 : (l.setIfInBounds 1 true).getD 25 false = l.getD 25 false := getD_set_ne false (by decide)
        have g26 : (l.setIfInBounds 1 true).getD 26 false = l.getD 26 false := getD_set_ne false (by decide)
        have g27 : (l.setIfInBounds 1 true).getD 27 false = l.getD 27 false := getD_set_ne false (by decide)
        change wpOp _ _ _ _ _ (putL l [(0, 65, .pointer (some ⟨w.heap.size, 0, none⟩)), (1, 66, .int .i64 a), (2, 67, .pointer (some ⟨w.heap.size + 1, 0, none⟩)), (3, 68, .int .i64 c), (4, 69, .agg #[.int .i64 (wh v0), .int .u64 (wl v0)]), (5, 70, .pointer (some ⟨w.heap.size, 0, none⟩)), (6, 71, .int .i64 a), (7, 72, .pointer (some ⟨w.heap.size + 1, 1, none⟩)), (8, 73, .int .i64 d), (9, 74, .agg #[.int .i64 (wh v1), .int .u64 (wl v1)]), (10, 75, .pointer (some ⟨w.heap.size, 1, none⟩)), (11, 76, .int .i64 b), (12, 77, .pointer (some ⟨w.heap.size + 1, 0, none⟩)), (13, 78, .int .i64 c), (14, 79, .agg #[.int .i64 (wh v2), .int .u64 (wl v2)]), (15, 80, .pointer (some ⟨w.heap.size, 1, none⟩)), (16, 81, .int .i64 b), (17, 82, .pointer (some ⟨w.heap.size + 1, 1, none⟩)), (18, 83, .int .i64 d), (19, 84, .agg #[.int .i64 (wh v3), .int .u64 (wl v3)]), (20, 11, .pointer (some ⟨b0, 0, none⟩)), (21, 12, .pointer (some ⟨b1, 0, none⟩)), (22, 13, .pointer (some ⟨b2, 0, none⟩)), (23, 14, .pointer (some ⟨b3, 0, none⟩))] _) _
        rw [← hV]
        refine wpOp_of (by simp only [List.getElem?_toArray, List.getElem?_cons_succ, List.getElem?_cons_zero]; rfl) rfl ?_
        refine wp_value (v := .int .i64 a) (w' := x) ?_ ⟨(b0, b1, b2, b3), ((putL_set (by omega) hnn N1 N2 (by rw [hV]; exact List.mem_of_getElem? (i := 1) rfl)).symm.trans (by rw [hV0])), by simp [hl], hk, ?_, ?_, ?_, ?_, ?_, ?_, ?_, ?_, ?_, ?_, ?_, ?_, ?_, ?_⟩
        · clear hV hV0
          simp only [execOp, Go.resolve, List.map_toArray, List.map_cons, List.map_nil]
          rw [ev65 _ (by first | rfl | decide | (simp; done))]
          obtain ⟨oz, og, oc0, oc1, _⟩ := OwnB.kept hk HB1_2.out
          first | (simp [go_sem]; done) | (simp [go_sem, *]; done)
        all_goals (simp only [g20, g21, g22, g23, g24, g25, g26, g27]; assumption)
      · -- 2
        have ev3 : ∀ (A : Act), A.eval (.tmp 3) = (.pointer (some ⟨w.heap.size + 1, 0, none⟩)) → (putL l V A).eval (.tmp 3) = (.pointer (some ⟨w.heap.size + 1, 0, none⟩)) := fun A h => (putL_eval_out (by rw [hV]; show 3 ∉ ([65, 66, 67, 68, 69, 70, 71, 72, 73, 74, 75, 76, 77, 78, 79, 80, 81, 82, 83, 84, 11, 12, 13, 14] : List Nat); decide)).trans h
        have g20 : (l.setIfInBounds 2 true).getD 20 false = l.getD 20 false := getD_set_ne false (by decide)
        have g21 : (l.setIfInBounds 2 true).getD 21 false = l.getD 21 false := getD_set_ne false (by decide)
        have g22 : (l.setIfInBounds 2 true).getD 22 false = l.getD 22 false := getD_set_ne false (by decide)
        have g23 : (l.setIfInBounds 2 true).getD 23 false = l.getD 23 false := getD_set_ne false (by decide)
        have g24 : (l.setIfInBounds 2 true).getD 24 false = l.getD 24 false := getD_set_ne false (by decide)
        have g25 : (l.setIfInBounds 2 true).getD 25 false = l.getD 25 false := getD_set_ne false (by decide)
        have g26 : (l.setIfInBounds 2 true).getD 26 false = l.getD 26 false := getD_set_ne false (by decide)
        have g27 : (l.setIfInBounds 2 true).getD 27 false = l.getD 27 false := getD_set_ne false (by decide)
        change wpOp _ _ _ _ _ (putL l [(0, 65, .pointer (some ⟨w.heap.size, 0, none⟩)), (1, 66, .int .i64 a), (2, 67, .pointer (some ⟨w.heap.size + 1, 0, none⟩)), (3, 68, .int .i64 c), (4, 69, .agg #[.int .i64 (wh v0), .int .u64 (wl v0)]), (5, 70, .pointer (some ⟨w.heap.size, 0, none⟩)), (6, 71, .int .i64 a), (7, 72, .pointer (some ⟨w.heap.size + 1, 1, none⟩)), (8, 73, .int .i64 d), (9, 74, .agg #[.int .i64 (wh v1), .int .u64 (wl v1)]), (10, 75, .pointer (some ⟨w.heap.size, 1, none⟩)), (11, 76, .int .i64 b), (12, 77, .pointer (some ⟨w.heap.size + 1, 0, none⟩)), (13, 78, .int .i64 c), (14, 79, .agg #[.int .i64 (wh v2), .int .u64 (wl v2)]), (15, 80, .pointer (some ⟨w.heap.size, 1, none⟩)), (16, 81, .int .i64 b), (17, 82, .pointer (some ⟨w.heap.size + 1, 1, none⟩)), (18, 83, .int .i64 d), (19, 84, .agg #[.int .i64 (wh v3), .int .u64 (wl v3)]), (20, 11, .pointer (some ⟨b0, 0, none⟩)), (21, 12, .pointer (some ⟨b1, 0, none⟩)), (22, 13, .pointer (some ⟨b2, 0, none⟩)), (23, 14, .pointer (some ⟨b3, 0, none⟩))] _) _
        rw [← hV]
        refine wpOp_of (by simp only [List.getElem?_toArray, List.getElem?_cons_succ, List.getElem?_cons_zero]; rfl) rfl ?_
        refine wp_value (v := .pointer (some ⟨w.heap.size + 1, 0, none⟩)) (w' := x) ?_ ⟨(b0, b1, b2, b3), ((putL_set (by omega) hnn N1 N2 (by rw [hV]; exact List.mem_of_getElem? (i := 2) rfl)).symm.trans (by rw [hV0])), by simp [hl], hk, ?_, ?_, ?_, ?_, ?_, ?_, ?_, ?_, ?_, ?_, ?_, ?_, ?_, ?_⟩
        · clear hV hV0
          simp only [execOp, Go.resolve, List.map_toArray, List.map_cons, List.map_nil]
          rw [ev3 _ (by first | rfl | decide | (simp; done))]
          first | (simp [go_sem]; done) | (simp [go_sem, *]; done)
        all_goals (simp only [g20, g21, g22, g23, g24, g25, g26, g27]; assumption)
      · -- 3
        have ev67 : ∀ (A : Act), 67 < A.tmps.size → (putL l V A).eval (.tmp 67) = (.pointer (some ⟨w.heap.size + 1, 0, none⟩)) := fun A h => putL_eval (i := 2) (ready_on hi (by kernel_rfl)) N2 (by rw [hV]; exact List.mem_of_getElem? (i := 2) rfl) h
        have g20 : (l.setIfInBounds 3 true).getD 20 false = l.getD 20 false := getD_set_ne false (by decide)
        have g21 : (l.setIfInBounds 3 true).getD 21 false = l.getD 21 false := getD_set_ne false (by decide)
        have g22 : (l.setIfInBounds 3 true).getD 22 false = l.getD 22 false := getD_set_ne false (by decide)
        have g23 : (l.setIfInBounds 3 true).getD 23 false = l.getD 23 false := getD_set_ne false (by decide)
        have g24 : (l.setIfInBounds 3 true).getD 24 false = l.getD 24 false := getD_set_ne false (by decide)
        have g25 : (l.setIfInBounds 3 true).getD 25 false = l.getD 25 false := getD_set_ne false (by decide)
        have g26 : (l.setIfInBounds 3 true).getD 26 false = l.getD 26 false := getD_set_ne false (by decide)
        have g27 : (l.setIfInBounds 3 true).getD 27 false = l.getD 27 false := getD_set_ne false (by decide)
        change wpOp _ _ _ _ _ (putL l [(0, 65, .pointer (some ⟨w.heap.size, 0, none⟩)), (1, 66, .int .i64 a), (2, 67, .pointer (some ⟨w.heap.size + 1, 0, none⟩)), (3, 68, .int .i64 c), (4, 69, .agg #[.int .i64 (wh v0), .int .u64 (wl v0)]), (5, 70, .pointer (some ⟨w.heap.size, 0, none⟩)), (6, 71, .int .i64 a), (7, 72, .pointer (some ⟨w.heap.size + 1, 1, none⟩)), (8, 73, .int .i64 d), (9, 74, .agg #[.int .i64 (wh v1), .int .u64 (wl v1)]), (10, 75, .pointer (some ⟨w.heap.size, 1, none⟩)), (11, 76, .int .i64 b), (12, 77, .pointer (some ⟨w.heap.size + 1, 0, none⟩)), (13, 78, .int .i64 c), (14, 79, .agg #[.int .i64 (wh v2), .int .u64 (wl v2)]), (15, 80, .pointer (some ⟨w.heap.size, 1, none⟩)), (16, 81, .int .i64 b), (17, 82, .pointer (some ⟨w.heap.size + 1, 1, none⟩)), (18, 83, .int .i64 d), (19, 84, .agg #[.int .i64 (wh v3), .int .u64 (wl v3)]), (20, 11, .pointer (some ⟨b0, 0, none⟩)), (21, 12, .pointer (some ⟨b1, 0, none⟩)), (22, 13, .pointer (some ⟨b2, 0, none⟩)), (23, 14, .pointer (some ⟨b3, 0, none⟩))] _) _
        rw [← hV]
        refine wpOp_of (by simp only [List.getElem?_toArray, List.getElem?_cons_succ, List.getElem?_cons_zero]; rfl) rfl ?_
        refine wp_value (v := .int .i64 c) (w' := x) ?_ ⟨(b0, b1, b2, b3), ((putL_set (by omega) hnn N1 N2 (by rw [hV]; exact List.mem_of_getElem? (i := 3) rfl)).symm.trans (by rw [hV0])), by simp [hl], hk, ?_, ?_, ?_, ?_, ?_, ?_, ?_, ?_, ?_, ?_, ?_, ?_, ?_, ?_⟩
        · clear hV hV0
          simp only [execOp, Go.resolve, List.map_toArray, List.map_cons, List.map_nil]
          rw [ev67 _ (by first | rfl | decide | (simp; done))]
          obtain ⟨oz, og, oc0, oc1, _⟩ := OwnB.kept hk HB1_3.out
          first | (simp [go_sem]; done) | (simp [go_sem, *]; done)
        all_goals (simp only [g20, g21, g22, g23, g24, g25, g26, g27]; assumption)
      · -- 4
        have ev66 : ∀ (A : Act), 66 < A.tmps.size → (putL l V A).eval (.tmp 66) = (.int .i64 a) := fun A h => putL_eval (i := 1) (ready_on hi (by kernel_rfl)) N2 (by rw [hV]; exact List.mem_of_getElem? (i := 1) rfl) h
        have ev68 : ∀ (A : Act), 68 < A.tmps.size → (putL l V A).eval (.tmp 68) = (.int .i64 c) := fun A h => putL_eval (i := 3) (ready_on hi (by kernel_rfl)) N2 (by rw [hV]; exact List.mem_of_getElem? (i := 3) rfl) h
        have g20 : (l.setIfInBounds 4 true).getD 20 false = l.getD 20 false := getD_set_ne false (by decide)
        have g21 : (l.setIfInBounds 4 true).getD 21 false = l.getD 21 false := getD_set_ne false (by decide)
        have g22 : (l.setIfInBounds 4 true).getD 22 false = l.getD 22 false := getD_set_ne false (by decide)
        have g23 : (l.setIfInBounds 4 true).getD 23 false = l.getD 23 false := getD_set_ne false (by decide)
        have g24 : (l.setIfInBounds 4 true).getD 24 false = l.getD 24 false := getD_set_ne false (by decide)
        have g25 : (l.setIfInBounds 4 true).getD 25 false = l.getD 25 false := getD_set_ne false (by decide)
        have g26 : (l.setIfInBounds 4 true).getD 26 false = l.getD 26 false := getD_set_ne false (by decide)
        have g27 : (l.setIfInBounds 4 true).getD 27 false = l.getD 27 false := getD_set_ne false (by decide)
        change wpOp _ _ _ _ _ (putL l [(0, 65, .pointer (some ⟨w.heap.size, 0, none⟩)), (1, 66, .int .i64 a), (2, 67, .pointer (some ⟨w.heap.size + 1, 0, none⟩)), (3, 68, .int .i64 c), (4, 69, .agg #[.int .i64 (wh v0), .int .u64 (wl v0)]), (5, 70, .pointer (some ⟨w.heap.size, 0, none⟩)), (6, 71, .int .i64 a), (7, 72, .pointer (some ⟨w.heap.size + 1, 1, none⟩)), (8, 73, .int .i64 d), (9, 74, .agg #[.int .i64 (wh v1), .int .u64 (wl v1)]), (10, 75, .pointer (some ⟨w.heap.size, 1, none⟩)), (11, 76, .int .i64 b), (12, 77, .pointer (some ⟨w.heap.size + 1, 0, none⟩)), (13, 78, .int .i64 c), (14, 79, .agg #[.int .i64 (wh v2), .int .u64 (wl v2)]), (15, 80, .pointer (some ⟨w.heap.size, 1, none⟩)), (16, 81, .int .i64 b), (17, 82, .pointer (some ⟨w.heap.size + 1, 1, none⟩)), (18, 83, .int .i64 d), (19, 84, .agg #[.int .i64 (wh v3), .int .u64 (wl v3)]), (20, 11, .pointer (some ⟨b0, 0, none⟩)), (21, 12, .pointer (some ⟨b1, 0, none⟩)), (22, 13, .pointer (some ⟨b2, 0, none⟩)), (23, 14, .pointer (some ⟨b3, 0, none⟩))] _) _
        rw [← hV]
        refine wpOp_of (by simp only [List.getElem?_toArray, List.getElem?_cons_succ, List.getElem?_cons_zero]; rfl) rfl ?_
        have eE : ∀ (args : Array Value) (w : World), (callFunc 8 args).run Try.prog w = .ok (.enter 8 args) w := enters_of Try.func8 (by kernel_rfl) rfl
        refine wp_call (f := 8) (args := #[.int .i64 a, .int .i64 c]) ?_ ((Hc0.out x).mono ?_)
        · clear hV hV0
          simp only [execOp, Go.resolve, List.map_toArray, List.map_cons, List.map_nil]
          rw [ev66 _ (by first | rfl | decide | (simp; done))]
          rw [ev68 _ (by first | rfl | decide | (simp; done))]
          first | (simp [go_sem, eE]; done) | (simp [go_sem, eE, *]; done)
        · rintro e w_ ⟨rfl, hk2⟩
          refine ⟨(b0, b1, b2, b3), ((putL_set (by omega) hnn N1 N2 (by rw [hV]; exact List.mem_of_getElem? (i := 4) rfl)).symm.trans (by rw [hV0])), by simp [hl], hk.trans hk2, ?_, ?_, ?_, ?_, ?_, ?_, ?_, ?_, ?_, ?_, ?_, ?_, ?_, ?_⟩
          · intro q
            rw [g20] at q
            obtain ⟨t1, t2, t3⟩ := h20 q
            exact ⟨t1, fun z => OwnB.kept hk2 (t2 (by rwa [g24] at z)), fun z => OwnB.kept hk2 (t3 (by rwa [g24] at z))⟩
          · intro q
            rw [g21] at q
            obtain ⟨t1, t2, t3⟩ := h21 q
            exact ⟨t1, fun z => OwnB.kept hk2 (t2 (by rwa [g25] at z)), fun z => OwnB.kept hk2 (t3 (by rwa [g25] at z))⟩
          · intro q
            rw [g22] at q
            obtain ⟨t1, t2, t3⟩ := h22 q
            exact ⟨t1, fun z => OwnB.kept hk2 (t2 (by rwa [g26] at z)), fun z => OwnB.kept hk2 (t3 (by rwa [g26] at z))⟩
          · intro q
            rw [g23] at q
            obtain ⟨t1, t2, t3⟩ := h23 q
            exact ⟨t1, fun z => OwnB.kept hk2 (t2 (by rwa [g27] at z)), fun z => OwnB.kept hk2 (t3 (by rwa [g27] at z))⟩
          all_goals (simp only [g20, g21, g22, g23, g24, g25, g26, g27]; assumption)
      · -- 5
        have ev2 : ∀ (A : Act), A.eval (.tmp 2) = (.pointer (some ⟨w.heap.size, 0, none⟩)) → (putL l V A).eval (.tmp 2) = (.pointer (some ⟨w.heap.size, 0, none⟩)) := fun A h => (putL_eval_out (by rw [hV]; show 2 ∉ ([65, 66, 67, 68, 69, 70, 71, 72, 73, 74, 75, 76, 77, 78, 79, 80, 81, 82, 83, 84, 11, 12, 13, 14] : List Nat); decide)).trans h
        have g20 : (l.setIfInBounds 5 true).getD 20 false = l.getD 20 false := getD_set_ne false (by decide)
        have g21 : (l.setIfInBounds 5 true).getD 21 false = l.getD 21 false := getD_set_ne false (by decide)
        have g22 : (l.setIfInBounds 5 true).getD 22 false = l.getD 22 false := getD_set_ne false (by decide)
        have g23 : (l.setIfInBounds 5 true).getD 23 false = l.getD 23 false := getD_set_ne false (by decide)
        have g24 : (l.setIfInBounds 5 true).getD 24 false = l.getD 24 false := getD_set_ne false (by decide)
        have g25 : (l.setIfInBounds 5 true).getD 25 false = l.getD 25 false := getD_set_ne false (by decide)
        have g26 : (l.setIfInBounds 5 true).getD 26 false = l.getD 26 false := getD_set_ne false (by decide)
        have g27 : (l.setIfInBounds 5 true).getD 27 false = l.getD 27 false := getD_set_ne false (by decide)
        change wpOp _ _ _ _ _ (putL l [(0, 65, .pointer (some ⟨w.heap.size, 0, none⟩)), (1, 66, .int .i64 a), (2, 67, .pointer (some ⟨w.heap.size + 1, 0, none⟩)), (3, 68, .int .i64 c), (4, 69, .agg #[.int .i64 (wh v0), .int .u64 (wl v0)]), (5, 70, .pointer (some ⟨w.heap.size, 0, none⟩)), (6, 71, .int .i64 a), (7, 72, .pointer (some ⟨w.heap.size + 1, 1, none⟩)), (8, 73, .int .i64 d), (9, 74, .agg #[.int .i64 (wh v1), .int .u64 (wl v1)]), (10, 75, .pointer (some ⟨w.heap.size, 1, none⟩)), (11, 76, .int .i64 b), (12, 77, .pointer (some ⟨w.heap.size + 1, 0, none⟩)), (13, 78, .int .i64 c), (14, 79, .agg #[.int .i64 (wh v2), .int .u64 (wl v2)]), (15, 80, .pointer (some ⟨w.heap.size, 1, none⟩)), (16, 81, .int .i64 b), (17, 82, .pointer (some ⟨w.heap.size + 1, 1, none⟩)), (18, 83, .int .i64 d), (19, 84, .agg #[.int .i64 (wh v3), .int .u64 (wl v3)]), (20, 11, .pointer (some ⟨b0, 0, none⟩)), (21, 12, .pointer (some ⟨b1, 0, none⟩)), (22, 13, .pointer (some ⟨b2, 0, none⟩)), (23, 14, .pointer (some ⟨b3, 0, none⟩))] _) _
        rw [← hV]
        refine wpOp_of (by simp only [List.getElem?_toArray, List.getElem?_cons_succ, List.getElem?_cons_zero]; rfl) rfl ?_
        refine wp_value (v := .pointer (some ⟨w.heap.size, 0, none⟩)) (w' := x) ?_ ⟨(b0, b1, b2, b3), ((putL_set (by omega) hnn N1 N2 (by rw [hV]; exact List.mem_of_getElem? (i := 5) rfl)).symm.trans (by rw [hV0])), by simp [hl], hk, ?_, ?_, ?_, ?_, ?_, ?_, ?_, ?_, ?_, ?_, ?_, ?_, ?_, ?_⟩
        · clear hV hV0
          simp only [execOp, Go.resolve, List.map_toArray, List.map_cons, List.map_nil]
          rw [ev2 _ (by first | rfl | decide | (simp; done))]
          first | (simp [go_sem]; done) | (simp [go_sem, *]; done)
        all_goals (simp only [g20, g21, g22, g23, g24, g25, g26, g27]; assumption)
      · -- 6
        have ev70 : ∀ (A : Act), 70 < A.tmps.size → (putL l V A).eval (.tmp 70) = (.pointer (some ⟨w.heap.size, 0, none⟩)) := fun A h => putL_eval (i := 5) (ready_on hi (by kernel_rfl)) N2 (by rw [hV]; exact List.mem_of_getElem? (i := 5) rfl) h
        have g20 : (l.setIfInBounds 6 true).getD 20 false = l.getD 20 false := getD_set_ne false (by decide)
        have g21 : (l.setIfInBounds 6 true).getD 21 false = l.getD 21 false := getD_set_ne false (by decide)
        have g22 : (l.setIfInBounds 6 true).getD 22 false = l.getD 22 false := getD_set_ne false (by decide)
        have g23 : (l.setIfInBounds 6 true).getD 23 false = l.getD 23 false := getD_set_ne false (by decide)
        have g24 : (l.setIfInBounds 6 true).getD 24 false = l.getD 24 false := getD_set_ne false (by decide)
        have g25 : (l.setIfInBounds 6 true).getD 25 false = l.getD 25 false := getD_set_ne false (by decide)
        have g26 : (l.setIfInBounds 6 true).getD 26 false = l.getD 26 false := getD_set_ne false (by decide)
        have g27 : (l.setIfInBounds 6 true).getD 27 false = l.getD 27 false := getD_set_ne false (by decide)
        change wpOp _ _ _ _ _ (putL l [(0, 65, .pointer (some ⟨w.heap.size, 0, none⟩)), (1, 66, .int .i64 a), (2, 67, .pointer (some ⟨w.heap.size + 1, 0, none⟩)), (3, 68, .int .i64 c), (4, 69, .agg #[.int .i64 (wh v0), .int .u64 (wl v0)]), (5, 70, .pointer (some ⟨w.heap.size, 0, none⟩)), (6, 71, .int .i64 a), (7, 72, .pointer (some ⟨w.heap.size + 1, 1, none⟩)), (8, 73, .int .i64 d), (9, 74, .agg #[.int .i64 (wh v1), .int .u64 (wl v1)]), (10, 75, .pointer (some ⟨w.heap.size, 1, none⟩)), (11, 76, .int .i64 b), (12, 77, .pointer (some ⟨w.heap.size + 1, 0, none⟩)), (13, 78, .int .i64 c), (14, 79, .agg #[.int .i64 (wh v2), .int .u64 (wl v2)]), (15, 80, .pointer (some ⟨w.heap.size, 1, none⟩)), (16, 81, .int .i64 b), (17, 82, .pointer (some ⟨w.heap.size + 1, 1, none⟩)), (18, 83, .int .i64 d), (19, 84, .agg #[.int .i64 (wh v3), .int .u64 (wl v3)]), (20, 11, .pointer (some ⟨b0, 0, none⟩)), (21, 12, .pointer (some ⟨b1, 0, none⟩)), (22, 13, .pointer (some ⟨b2, 0, none⟩)), (23, 14, .pointer (some ⟨b3, 0, none⟩))] _) _
        rw [← hV]
        refine wpOp_of (by simp only [List.getElem?_toArray, List.getElem?_cons_succ, List.getElem?_cons_zero]; rfl) rfl ?_
        refine wp_value (v := .int .i64 a) (w' := x) ?_ ⟨(b0, b1, b2, b3), ((putL_set (by omega) hnn N1 N2 (by rw [hV]; exact List.mem_of_getElem? (i := 6) rfl)).symm.trans (by rw [hV0])), by simp [hl], hk, ?_, ?_, ?_, ?_, ?_, ?_, ?_, ?_, ?_, ?_, ?_, ?_, ?_, ?_⟩
        · clear hV hV0
          simp only [execOp, Go.resolve, List.map_toArray, List.map_cons, List.map_nil]
          rw [ev70 _ (by first | rfl | decide | (simp; done))]
          obtain ⟨oz, og, oc0, oc1, _⟩ := OwnB.kept hk HB1_2.out
          first | (simp [go_sem]; done) | (simp [go_sem, *]; done)
        all_goals (simp only [g20, g21, g22, g23, g24, g25, g26, g27]; assumption)
      · -- 7
        have ev3 : ∀ (A : Act), A.eval (.tmp 3) = (.pointer (some ⟨w.heap.size + 1, 0, none⟩)) → (putL l V A).eval (.tmp 3) = (.pointer (some ⟨w.heap.size + 1, 0, none⟩)) := fun A h => (putL_eval_out (by rw [hV]; show 3 ∉ ([65, 66, 67, 68, 69, 70, 71, 72, 73, 74, 75, 76, 77, 78, 79, 80, 81, 82, 83, 84, 11, 12, 13, 14] : List Nat); decide)).trans h
        have g20 : (l.setIfInBounds 7 true).getD 20 false = l.getD 20 false := getD_set_ne false (by decide)
        have g21 : (l.setIfInBounds 7 true).getD 21 false = l.getD 21 false := getD_set_ne false (by decide)
        have g22 : (l.setIfInBounds 7 true).getD 22 false = l.getD 22 false := getD_set_ne false (by decide)
        have g23 : (l.setIfInBounds 7 true).getD 23 false = l.getD 23 false := getD_set_ne false (by decide)
        have g24 : (l.setIfInBounds 7 true).getD 24 false = l.getD 24 false := getD_set_ne false (by decide)
        have g25 : (l.setIfInBounds 7 true).getD 25 false = l.getD 25 false := getD_set_ne false (by decide)
        have g26 : (l.setIfInBounds 7 true).getD 26 false = l.getD 26 false := getD_set_ne false (by decide)
        have g27 : (l.setIfInBounds 7 true).getD 27 false = l.getD 27 false := getD_set_ne false (by decide)
        change wpOp _ _ _ _ _ (putL l [(0, 65, .pointer (some ⟨w.heap.size, 0, none⟩)), (1, 66, .int .i64 a), (2, 67, .pointer (some ⟨w.heap.size + 1, 0, none⟩)), (3, 68, .int .i64 c), (4, 69, .agg #[.int .i64 (wh v0), .int .u64 (wl v0)]), (5, 70, .pointer (some ⟨w.heap.size, 0, none⟩)), (6, 71, .int .i64 a), (7, 72, .pointer (some ⟨w.heap.size + 1, 1, none⟩)), (8, 73, .int .i64 d), (9, 74, .agg #[.int .i64 (wh v1), .int .u64 (wl v1)]), (10, 75, .pointer (some ⟨w.heap.size, 1, none⟩)), (11, 76, .int .i64 b), (12, 77, .pointer (some ⟨w.heap.size + 1, 0, none⟩)), (13, 78, .int .i64 c), (14, 79, .agg #[.int .i64 (wh v2), .int .u64 (wl v2)]), (15, 80, .pointer (some ⟨w.heap.size, 1, none⟩)), (16, 81, .int .i64 b), (17, 82, .pointer (some ⟨w.heap.size + 1, 1, none⟩)), (18, 83, .int .i64 d), (19, 84, .agg #[.int .i64 (wh v3), .int .u64 (wl v3)]), (20, 11, .pointer (some ⟨b0, 0, none⟩)), (21, 12, .pointer (some ⟨b1, 0, none⟩)), (22, 13, .pointer (some ⟨b2, 0, none⟩)), (23, 14, .pointer (some ⟨b3, 0, none⟩))] _) _
        rw [← hV]
        refine wpOp_of (by simp only [List.getElem?_toArray, List.getElem?_cons_succ, List.getElem?_cons_zero]; rfl) rfl ?_
        refine wp_value (v := .pointer (some ⟨w.heap.size + 1, 1, none⟩)) (w' := x) ?_ ⟨(b0, b1, b2, b3), ((putL_set (by omega) hnn N1 N2 (by rw [hV]; exact List.mem_of_getElem? (i := 7) rfl)).symm.trans (by rw [hV0])), by simp [hl], hk, ?_, ?_, ?_, ?_, ?_, ?_, ?_, ?_, ?_, ?_, ?_, ?_, ?_, ?_⟩
        · clear hV hV0
          simp only [execOp, Go.resolve, List.map_toArray, List.map_cons, List.map_nil]
          rw [ev3 _ (by first | rfl | decide | (simp; done))]
          first | (simp [go_sem]; done) | (simp [go_sem, *]; done)
        all_goals (simp only [g20, g21, g22, g23, g24, g25, g26, g27]; assumption)
      · -- 8
        have ev72 : ∀ (A : Act), 72 < A.tmps.size → (putL l V A).eval (.tmp 72) = (.pointer (some ⟨w.heap.size + 1, 1, none⟩)) := fun A h => putL_eval (i := 7) (ready_on hi (by kernel_rfl)) N2 (by rw [hV]; exact List.mem_of_getElem? (i := 7) rfl) h
        have g20 : (l.setIfInBounds 8 true).getD 20 false = l.getD 20 false := getD_set_ne false (by decide)
        have g21 : (l.setIfInBounds 8 true).getD 21 false = l.getD 21 false := getD_set_ne false (by decide)
        have g22 : (l.setIfInBounds 8 true).getD 22 false = l.getD 22 false := getD_set_ne false (by decide)
        have g23 : (l.setIfInBounds 8 true).getD 23 false = l.getD 23 false := getD_set_ne false (by decide)
        have g24 : (l.setIfInBounds 8 true).getD 24 false = l.getD 24 false := getD_set_ne false (by decide)
        have g25 : (l.setIfInBounds 8 true).getD 25 false = l.getD 25 false := getD_set_ne false (by decide)
        have g26 : (l.setIfInBounds 8 true).getD 26 false = l.getD 26 false := getD_set_ne false (by decide)
        have g27 : (l.setIfInBounds 8 true).getD 27 false = l.getD 27 false := getD_set_ne false (by decide)
        change wpOp _ _ _ _ _ (putL l [(0, 65, .pointer (some ⟨w.heap.size, 0, none⟩)), (1, 66, .int .i64 a), (2, 67, .pointer (some ⟨w.heap.size + 1, 0, none⟩)), (3, 68, .int .i64 c), (4, 69, .agg #[.int .i64 (wh v0), .int .u64 (wl v0)]), (5, 70, .pointer (some ⟨w.heap.size, 0, none⟩)), (6, 71, .int .i64 a), (7, 72, .pointer (some ⟨w.heap.size + 1, 1, none⟩)), (8, 73, .int .i64 d), (9, 74, .agg #[.int .i64 (wh v1), .int .u64 (wl v1)]), (10, 75, .pointer (some ⟨w.heap.size, 1, none⟩)), (11, 76, .int .i64 b), (12, 77, .pointer (some ⟨w.heap.size + 1, 0, none⟩)), (13, 78, .int .i64 c), (14, 79, .agg #[.int .i64 (wh v2), .int .u64 (wl v2)]), (15, 80, .pointer (some ⟨w.heap.size, 1, none⟩)), (16, 81, .int .i64 b), (17, 82, .pointer (some ⟨w.heap.size + 1, 1, none⟩)), (18, 83, .int .i64 d), (19, 84, .agg #[.int .i64 (wh v3), .int .u64 (wl v3)]), (20, 11, .pointer (some ⟨b0, 0, none⟩)), (21, 12, .pointer (some ⟨b1, 0, none⟩)), (22, 13, .pointer (some ⟨b2, 0, none⟩)), (23, 14, .pointer (some ⟨b3, 0, none⟩))] _) _
        rw [← hV]
        refine wpOp_of (by simp only [List.getElem?_toArray, List.getElem?_cons_succ, List.getElem?_cons_zero]; rfl) rfl ?_
        refine wp_value (v := .int .i64 d) (w' := x) ?_ ⟨(b0, b1, b2, b3), ((putL_set (by omega) hnn N1 N2 (by rw [hV]; exact List.mem_of_getElem? (i := 8) rfl)).symm.trans (by rw [hV0])), by simp [hl], hk, ?_, ?_, ?_, ?_, ?_, ?_, ?_, ?_, ?_, ?_, ?_, ?_, ?_, ?_⟩
        · clear hV hV0
          simp only [execOp, Go.resolve, List.map_toArray, List.map_cons, List.map_nil]
          rw [ev72 _ (by first | rfl | decide | (simp; done))]
          obtain ⟨oz, og, oc0, oc1, _⟩ := OwnB.kept hk HB1_3.out
          first | (simp [go_sem]; done) | (simp [go_sem, *]; done)
        all_goals (simp only [g20, g21, g22, g23, g24, g25, g26, g27]; assumption)
      · -- 9
        have ev71 : ∀ (A : Act), 71 < A.tmps.size → (putL l V A).eval (.tmp 71) = (.int .i64 a) := fun A h => putL_eval (i := 6) (ready_on hi (by kernel_rfl)) N2 (by rw [hV]; exact List.mem_of_getElem? (i := 6) rfl) h
        have ev73 : ∀ (A : Act), 73 < A.tmps.size → (putL l V A).eval (.tmp 73) = (.int .i64 d) := fun A h => putL_eval (i := 8) (ready_on hi (by kernel_rfl)) N2 (by rw [hV]; exact List.mem_of_getElem? (i := 8) rfl) h
        have g20 : (l.setIfInBounds 9 true).getD 20 false = l.getD 20 false := getD_set_ne false (by decide)
        have g21 : (l.setIfInBounds 9 true).getD 21 false = l.getD 21 false := getD_set_ne false (by decide)
        have g22 : (l.setIfInBounds 9 true).getD 22 false = l.getD 22 false := getD_set_ne false (by decide)
        have g23 : (l.setIfInBounds 9 true).getD 23 false = l.getD 23 false := getD_set_ne false (by decide)
        have g24 : (l.setIfInBounds 9 true).getD 24 false = l.getD 24 false := getD_set_ne false (by decide)
        have g25 : (l.setIfInBounds 9 true).getD 25 false = l.getD 25 false := getD_set_ne false (by decide)
        have g26 : (l.setIfInBounds 9 true).getD 26 false = l.getD 26 false := getD_set_ne false (by decide)
        have g27 : (l.setIfInBounds 9 true).getD 27 false = l.getD 27 false := getD_set_ne false (by decide)
        change wpOp _ _ _ _ _ (putL l [(0, 65, .pointer (some ⟨w.heap.size, 0, none⟩)), (1, 66, .int .i64 a), (2, 67, .pointer (some ⟨w.heap.size + 1, 0, none⟩)), (3, 68, .int .i64 c), (4, 69, .agg #[.int .i64 (wh v0), .int .u64 (wl v0)]), (5, 70, .pointer (some ⟨w.heap.size, 0, none⟩)), (6, 71, .int .i64 a), (7, 72, .pointer (some ⟨w.heap.size + 1, 1, none⟩)), (8, 73, .int .i64 d), (9, 74, .agg #[.int .i64 (wh v1), .int .u64 (wl v1)]), (10, 75, .pointer (some ⟨w.heap.size, 1, none⟩)), (11, 76, .int .i64 b), (12, 77, .pointer (some ⟨w.heap.size + 1, 0, none⟩)), (13, 78, .int .i64 c), (14, 79, .agg #[.int .i64 (wh v2), .int .u64 (wl v2)]), (15, 80, .pointer (some ⟨w.heap.size, 1, none⟩)), (16, 81, .int .i64 b), (17, 82, .pointer (some ⟨w.heap.size + 1, 1, none⟩)), (18, 83, .int .i64 d), (19, 84, .agg #[.int .i64 (wh v3), .int .u64 (wl v3)]), (20, 11, .pointer (some ⟨b0, 0, none⟩)), (21, 12, .pointer (some ⟨b1, 0, none⟩)), (22, 13, .pointer (some ⟨b2, 0, none⟩)), (23, 14, .pointer (some ⟨b3, 0, none⟩))] _) _
        rw [← hV]
        refine wpOp_of (by simp only [List.getElem?_toArray, List.getElem?_cons_succ, List.getElem?_cons_zero]; rfl) rfl ?_
        have eE : ∀ (args : Array Value) (w : World), (callFunc 8 args).run Try.prog w = .ok (.enter 8 args) w := enters_of Try.func8 (by kernel_rfl) rfl
        refine wp_call (f := 8) (args := #[.int .i64 a, .int .i64 d]) ?_ ((Hc1.out x).mono ?_)
        · clear hV hV0
          simp only [execOp, Go.resolve, List.map_toArray, List.map_cons, List.map_nil]
          rw [ev71 _ (by first | rfl | decide | (simp; done))]
          rw [ev73 _ (by first | rfl | decide | (simp; done))]
          first | (simp [go_sem, eE]; done) | (simp [go_sem, eE, *]; done)
        · rintro e w_ ⟨rfl, hk2⟩
          refine ⟨(b0, b1, b2, b3), ((putL_set (by omega) hnn N1 N2 (by rw [hV]; exact List.mem_of_getElem? (i := 9) rfl)).symm.trans (by rw [hV0])), by simp [hl], hk.trans hk2, ?_, ?_, ?_, ?_, ?_, ?_, ?_, ?_, ?_, ?_, ?_, ?_, ?_, ?_⟩
          · intro q
            rw [g20] at q
            obtain ⟨t1, t2, t3⟩ := h20 q
            exact ⟨t1, fun z => OwnB.kept hk2 (t2 (by rwa [g24] at z)), fun z => OwnB.kept hk2 (t3 (by rwa [g24] at z))⟩
          · intro q
            rw [g21] at q
            obtain ⟨t1, t2, t3⟩ := h21 q
            exact ⟨t1, fun z => OwnB.kept hk2 (t2 (by rwa [g25] at z)), fun z => OwnB.kept hk2 (t3 (by rwa [g25] at z))⟩
          · intro q
            rw [g22] at q
            obtain ⟨t1, t2, t3⟩ := h22 q
            exact ⟨t1, fun z => OwnB.kept hk2 (t2 (by rwa [g26] at z)), fun z => OwnB.kept hk2 (t3 (by rwa [g26] at z))⟩
          · intro q
            rw [g23] at q
            obtain ⟨t1, t2, t3⟩ := h23 q
            exact ⟨t1, fun z => OwnB.kept hk2 (t2 (by rwa [g27] at z)), fun z => OwnB.kept hk2 (t3 (by rwa [g27] at z))⟩
          all_goals (simp only [g20, g21, g22, g23, g24, g25, g26, g27]; assumption)
      · -- 10
        have ev2 : ∀ (A : Act), A.eval (.tmp 2) = (.pointer (some ⟨w.heap.size, 0, none⟩)) → (putL l V A).eval (.tmp 2) = (.pointer (some ⟨w.heap.size, 0, none⟩)) := fun A h => (putL_eval_out (by rw [hV]; show 2 ∉ ([65, 66, 67, 68, 69, 70, 71, 72, 73, 74, 75, 76, 77, 78, 79, 80, 81, 82, 83, 84, 11, 12, 13, 14] : List Nat); decide)).trans h
        have g20 : (l.setIfInBounds 10 true).getD 20 false = l.getD 20 false := getD_set_ne false (by decide)
        have g21 : (l.setIfInBounds 10 true).getD 21 false = l.getD 21 false := getD_set_ne false (by decide)
        have g22 : (l.setIfInBounds 10 true).getD 22 false = l.getD 22 false := getD_set_ne false (by decide)
        have g23 : (l.setIfInBounds 10 true).getD 23 false = l.getD 23 false := getD_set_ne false (by decide)
        have g24 : (l.setIfInBounds 10 true).getD 24 false = l.getD 24 false := getD_set_ne false (by decide)
        have g25 : (l.setIfInBounds 10 true).getD 25 false = l.getD 25 false := getD_set_ne false (by decide)
        have g26 : (l.setIfInBounds 10 true).getD 26 false = l.getD 26 false := getD_set_ne false (by decide)
        have g27 : (l.setIfInBounds 10 true).getD 27 false = l.getD 27 false := getD_set_ne false (by decide)
        change wpOp _ _ _ _ _ (putL l [(0, 65, .pointer (some ⟨w.heap.size, 0, none⟩)), (1, 66, .int .i64 a), (2, 67, .pointer (some ⟨w.heap.size + 1, 0, none⟩)), (3, 68, .int .i64 c), (4, 69, .agg #[.int .i64 (wh v0), .int .u64 (wl v0)]), (5, 70, .pointer (some ⟨w.heap.size, 0, none⟩)), (6, 71, .int .i64 a), (7, 72, .pointer (some ⟨w.heap.size + 1, 1, none⟩)), (8, 73, .int .i64 d), (9, 74, .agg #[.int .i64 (wh v1), .int .u64 (wl v1)]), (10, 75, .pointer (some ⟨w.heap.size, 1, none⟩)), (11, 76, .int .i64 b), (12, 77, .pointer (some ⟨w.heap.size + 1, 0, none⟩)), (13, 78, .int .i64 c), (14, 79, .agg #[.int .i64 (wh v2), .int .u64 (wl v2)]), (15, 80, .pointer (some ⟨w.heap.size, 1, none⟩)), (16, 81, .int .i64 b), (17, 82, .pointer (some ⟨w.heap.size + 1, 1, none⟩)), (18, 83, .int .i64 d), (19, 84, .agg #[.int .i64 (wh v3), .int .u64 (wl v3)]), (20, 11, .pointer (some ⟨b0, 0, none⟩)), (21, 12, .pointer (some ⟨b1, 0, none⟩)), (22, 13, .pointer (some ⟨b2, 0, none⟩)), (23, 14, .pointer (some ⟨b3, 0, none⟩))] _) _
        rw [← hV]
        refine wpOp_of (by simp only [List.getElem?_toArray, List.getElem?_cons_succ, List.getElem?_cons_zero]; rfl) rfl ?_
        refine wp_value (v := .pointer (some ⟨w.heap.size, 1, none⟩)) (w' := x) ?_ ⟨(b0, b1, b2, b3), ((putL_set (by omega) hnn N1 N2 (by rw [hV]; exact List.mem_of_getElem? (i := 10) rfl)).symm.trans (by rw [hV0])), by simp [hl], hk, ?_, ?_, ?_, ?_, ?_, ?_, ?_, ?_, ?_, ?_, ?_, ?_, ?_, ?_⟩
        · clear hV hV0
          simp only [execOp, Go.resolve, List.map_toArray, List.map_cons, List.map_nil]
          rw [ev2 _ (by first | rfl | decide | (simp; done))]
          first | (simp [go_sem]; done) | (simp [go_sem, *]; done)
        all_goals (simp only [g20, g21, g22, g23, g24, g25, g26, g27]; assumption)
      · -- 11
        have ev75 : ∀ (A : Act), 75 < A.tmps.size → (putL l V A).eval (.tmp 75) = (.pointer (some ⟨w.heap.size, 1, none⟩)) := fun A h => putL_eval (i := 10) (ready_on hi (by kernel_rfl)) N2 (by rw [hV]; exact List.mem_of_getElem? (i := 10) rfl) h
        have g20 : (l.setIfInBounds 11 true).getD 20 false = l.getD 20 false := getD_set_ne false (by decide)
        have g21 : (l.setIfInBounds 11 true).getD 21 false = l.getD 21 false := getD_set_ne false (by decide)
        have g22 : (l.setIfInBounds 11 true).getD 22 false = l.getD 22 false := getD_set_ne false (by decide)
        have g23 : (l.setIfInBounds 11 true).getD 23 false = l.getD 23 false := getD_set_ne false (by decide)
        have g24 : (l.setIfInBounds 11 true).getD 24 false = l.getD 24 false := getD_set_ne false (by decide)
        have g25 : (l.setIfInBounds 11 true).getD 25 false = l.getD 25 false := getD_set_ne false (by decide)
        have g26 : (l.setIfInBounds 11 true).getD 26 false = l.getD 26 false := getD_set_ne false (by decide)
        have g27 : (l.setIfInBounds 11 true).getD 27 false = l.getD 27 false := getD_set_ne false (by decide)
        change wpOp _ _ _ _ _ (putL l [(0, 65, .pointer (some ⟨w.heap.size, 0, none⟩)), (1, 66, .int .i64 a), (2, 67, .pointer (some ⟨w.heap.size + 1, 0, none⟩)), (3, 68, .int .i64 c), (4, 69, .agg #[.int .i64 (wh v0), .int .u64 (wl v0)]), (5, 70, .pointer (some ⟨w.heap.size, 0, none⟩)), (6, 71, .int .i64 a), (7, 72, .pointer (some ⟨w.heap.size + 1, 1, none⟩)), (8, 73, .int .i64 d), (9, 74, .agg #[.int .i64 (wh v1), .int .u64 (wl v1)]), (10, 75, .pointer (some ⟨w.heap.size, 1, none⟩)), (11, 76, .int .i64 b), (12, 77, .pointer (some ⟨w.heap.size + 1, 0, none⟩)), (13, 78, .int .i64 c), (14, 79, .agg #[.int .i64 (wh v2), .int .u64 (wl v2)]), (15, 80, .pointer (some ⟨w.heap.size, 1, none⟩)), (16, 81, .int .i64 b), (17, 82, .pointer (some ⟨w.heap.size + 1, 1, none⟩)), (18, 83, .int .i64 d), (19, 84, .agg #[.int .i64 (wh v3), .int .u64 (wl v3)]), (20, 11, .pointer (some ⟨b0, 0, none⟩)), (21, 12, .pointer (some ⟨b1, 0, none⟩)), (22, 13, .pointer (some ⟨b2, 0, none⟩)), (23, 14, .pointer (some ⟨b3, 0, none⟩))] _) _
        rw [← hV]
        refine wpOp_of (by simp only [List.getElem?_toArray, List.getElem?_cons_succ, List.getElem?_cons_zero]; rfl) rfl ?_
        refine wp_value (v := .int .i64 b) (w' := x) ?_ ⟨(b0, b1, b2, b3), ((putL_set (by omega) hnn N1 N2 (by rw [hV]; exact List.mem_of_getElem? (i := 11) rfl)).symm.trans (by rw [hV0])), by simp [hl], hk, ?_, ?_, ?_, ?_, ?_, ?_, ?_, ?_, ?_, ?_, ?_, ?_, ?_, ?_⟩
        · clear hV hV0
          simp only [execOp, Go.resolve, List.map_toArray, List.map_cons, List.map_nil]
          rw [ev75 _ (by first | rfl | decide | (simp; done))]
          obtain ⟨oz, og, oc0, oc1, _⟩ := OwnB.kept hk HB1_2.out
          first | (simp [go_sem]; done) | (simp [go_sem, *]; done)
        all_goals (simp only [g20, g21, g22, g23, g24, g25, g26, g27]; assumption)
      · -- 12
        have ev3 : ∀ (A : Act), A.eval (.tmp 3) = (.pointer (some ⟨w.heap.size + 1, 0, none⟩)) → (putL l V A).eval (.tmp 3) = (.pointer (some ⟨w.heap.size + 1, 0, none⟩)) := fun A h => (putL_eval_out (by rw [hV]; show 3 ∉ ([65, 66, 67, 68, 69, 70, 71, 72, 73, 74, 75, 76, 77, 78, 79, 80, 81, 82, 83, 84, 11, 12, 13, 14] : List Nat); decide)).trans h
        have g20 : (l.setIfInBounds 12 true).getD 20 false = l.getD 20 false := getD_set_ne false (by decide)
        have g21 : (l.setIfInBounds 12 true).getD 21 false = l.getD 21 false := getD_set_ne false (by decide)
        have g22 : (l.setIfInBounds 12 true).getD 22 false = l.getD 22 false := getD_set_ne false (by decide)
        have g23 : (l.setIfInBounds 12 true).getD 23 false = l.getD 23 false := getD_set_ne false (by decide)
        have g24 : (l.setIfInBounds 12 true).getD 24 false = l.getD 24 false := getD_set_ne false (by decide)
        have g25 : (l.setIfInBounds 12 true).getD 25 false = l.getD 25 false := getD_set_ne false (by decide)
        have g26 : (l.setIfInBounds 12 true).getD 26 false = l.getD 26 false := getD_set_ne false (by decide)
        have g27 : (l.setIfInBounds 12 true).getD 27 false = l.getD 27 false := getD_set_ne false (by decide)
        change wpOp _ _ _ _ _ (putL l [(0, 65, .pointer (some ⟨w.heap.size, 0, none⟩)), (1, 66, .int .i64 a), (2, 67, .pointer (some ⟨w.heap.size + 1, 0, none⟩)), (3, 68, .int .i64 c), (4, 69, .agg #[.int .i64 (wh v0), .int .u64 (wl v0)]), (5, 70, .pointer (some ⟨w.heap.size, 0, none⟩)), (6, 71, .int .i64 a), (7, 72, .pointer (some ⟨w.heap.size + 1, 1, none⟩)), (8, 73, .int .i64 d), (9, 74, .agg #[.int .i64 (wh v1), .int .u64 (wl v1)]), (10, 75, .pointer (some ⟨w.heap.size, 1, none⟩)), (11, 76, .int .i64 b), (12, 77, .pointer (some ⟨w.heap.size + 1, 0, none⟩)), (13, 78, .int .i64 c), (14, 79, .agg #[.int .i64 (wh v2), .int .u64 (wl v2)]), (15, 80, .pointer (some ⟨w.heap.size, 1, none⟩)), (16, 81, .int .i64 b), (17, 82, .pointer (some ⟨w.heap.size + 1, 1, none⟩)), (18, 83, .int .i64 d), (19, 84, .agg #[.int .i64 (wh v3), .int .u64 (wl v3)]), (20, 11, .pointer (some ⟨b0, 0, none⟩)), (21, 12, .pointer (some ⟨b1, 0, none⟩)), (22, 13, .pointer (some ⟨b2, 0, none⟩)), (23, 14, .pointer (some ⟨b3, 0, none⟩))] _) _
        rw [← hV]
        refine wpOp_of (by simp only [List.getElem?_toArray, List.getElem?_cons_succ, List.getElem?_cons_zero]; rfl) rfl ?_
        refine wp_value (v := .pointer (some ⟨w.heap.size + 1, 0, none⟩)) (w' := x) ?_ ⟨(b0, b1, b2, b3), ((putL_set (by omega) hnn N1 N2 (by rw [hV]; exact List.mem_of_getElem? (i := 12) rfl)).symm.trans (by rw [hV0])), by simp [hl], hk, ?_, ?_, ?_, ?_, ?_, ?_, ?_, ?_, ?_, ?_, ?_, ?_, ?_, ?_⟩
        · clear hV hV0
          simp only [execOp, Go.resolve, List.map_toArray, List.map_cons, List.map_nil]
          rw [ev3 _ (by first | rfl | decide | (simp; done))]
          first | (simp [go_sem]; done) | (simp [go_sem, *]; done)
        all_goals (simp only [g20, g21, g22, g23, g24, g25, g26, g27]; assumption)
      · -- 13
        have ev77 : ∀ (A : Act), 77 < A.tmps.size → (putL l V A).eval (.tmp 77) = (.pointer (some ⟨w.heap.size + 1, 0, none⟩)) := fun A h => putL_eval (i := 12) (ready_on hi (by kernel_rfl)) N2 (by rw [hV]; exact List.mem_of_getElem? (i := 12) rfl) h
        have g20 : (l.setIfInBounds 13 true).getD 20 false = l.getD 20 false := getD_set_ne false (by decide)
        have g21 : (l.setIfInBounds 13 true).getD 21 false = l.getD 21 false := getD_set_ne false (by decide)
        have g22 : (l.setIfInBounds 13 true).getD 22 false = l.getD 22 false := getD_set_ne false (by decide)
        have g23 : (l.setIfInBounds 13 true).getD 23 false = l.getD 23 false := getD_set_ne false (by decide)
        have g24 : (l.setIfInBounds 13 true).getD 24 false = l.getD 24 false := getD_set_ne false (by decide)
        have g25 : (l.setIfInBounds 13 true).getD 25 false = l.getD 25 false := getD_set_ne false (by decide)
        have g26 : (l.setIfInBounds 13 true).getD 26 false = l.getD 26 false := getD_set_ne false (by decide)
        have g27 : (l.setIfInBounds 13 true).getD 27 false = l.getD 27 false := getD_set_ne false (by decide)
        change wpOp _ _ _ _ _ (putL l [(0, 65, .pointer (some ⟨w.heap.size, 0, none⟩)), (1, 66, .int .i64 a), (2, 67, .pointer (some ⟨w.heap.size + 1, 0, none⟩)), (3, 68, .int .i64 c), (4, 69, .agg #[.int .i64 (wh v0), .int .u64 (wl v0)]), (5, 70, .pointer (some ⟨w.heap.size, 0, none⟩)), (6, 71, .int .i64 a), (7, 72, .pointer (some ⟨w.heap.size + 1, 1, none⟩)), (8, 73, .int .i64 d), (9, 74, .agg #[.int .i64 (wh v1), .int .u64 (wl v1)]), (10, 75, .pointer (some ⟨w.heap.size, 1, none⟩)), (11, 76, .int .i64 b), (12, 77, .pointer (some ⟨w.heap.size + 1, 0, none⟩)), (13, 78, .int .i64 c), (14, 79, .agg #[.int .i64 (wh v2), .int .u64 (wl v2)]), (15, 80, .pointer (some ⟨w.heap.size, 1, none⟩)), (16, 81, .int .i64 b), (17, 82, .pointer (some ⟨w.heap.size + 1, 1, none⟩)), (18, 83, .int .i64 d), (19, 84, .agg #[.int .i64 (wh v3), .int .u64 (wl v3)]), (20, 11, .pointer (some ⟨b0, 0, none⟩)), (21, 12, .pointer (some ⟨b1, 0, none⟩)), (22, 13, .pointer (some ⟨b2, 0, none⟩)), (23, 14, .pointer (some ⟨b3, 0, none⟩))] _) _
        rw [← hV]
        refine wpOp_of (by simp only [List.getElem?_toArray, List.getElem?_cons_succ, List.getElem?_cons_zero]; rfl) rfl ?_
        refine wp_value (v := .int .i64 c) (w' := x) ?_ ⟨(b0, b1, b2, b3), ((putL_set (by omega) hnn N1 N2 (by rw [hV]; exact List.mem_of_getElem? (i := 13) rfl)).symm.trans (by rw [hV0])), by simp [hl], hk, ?_, ?_, ?_, ?_, ?_, ?_, ?_, ?_, ?_, ?_, ?_, ?_, ?_, ?_⟩
        · clear hV hV0
          simp only [execOp, Go.resolve, List.map_toArray, List.map_cons, List.map_nil]
          rw [ev77 _ (by first | rfl | decide | (simp; done))]
          obtain ⟨oz, og, oc0, oc1, _⟩ := OwnB.kept hk HB1_3.out
          first | (simp [go_sem]; done) | (simp [go_sem, *]; done)
        all_goals (simp only [g20, g21, g22, g23, g24, g25, g26, g27]; assumption)
      · -- 14
        have ev76 : ∀ (A : Act), 76 < A.tmps.size → (putL l V A).eval (.tmp 76) = (.int .i64 b) := fun A h => putL_eval (i := 11) (ready_on hi (by kernel_rfl)) N2 (by rw [hV]; exact List.mem_of_getElem? (i := 11) rfl) h
        have ev78 : ∀ (A : Act), 78 < A.tmps.size → (putL l V A).eval (.tmp 78) = (.int .i64 c) := fun A h => putL_eval (i := 13) (ready_on hi (by kernel_rfl)) N2 (by rw [hV]; exact List.mem_of_getElem? (i := 13) rfl) h
        have g20 : (l.setIfInBounds 14 true).getD 20 false = l.getD 20 false := getD_set_ne false (by decide)
        have g21 : (l.setIfInBounds 14 true).getD 21 false = l.getD 21 false := getD_set_ne false (by decide)
        have g22 : (l.setIfInBounds 14 true).getD 22 false = l.getD 22 false := getD_set_ne false (by decide)
        have g23 : (l.setIfInBounds 14 true).getD 23 false = l.getD 23 false := getD_set_ne false (by decide)
        have g24 : (l.setIfInBounds 14 true).getD 24 false = l.getD 24 false := getD_set_ne false (by decide)
        have g25 : (l.setIfInBounds 14 true).getD 25 false = l.getD 25 false := getD_set_ne false (by decide)
        have g26 : (l.setIfInBounds 14 true).getD 26 false = l.getD 26 false := getD_set_ne false (by decide)
        have g27 : (l.setIfInBounds 14 true).getD 27 false = l.getD 27 false := getD_set_ne false (by decide)
        change wpOp _ _ _ _ _ (putL l [(0, 65, .pointer (some ⟨w.heap.size, 0, none⟩)), (1, 66, .int .i64 a), (2, 67, .pointer (some ⟨w.heap.size + 1, 0, none⟩)), (3, 68, .int .i64 c), (4, 69, .agg #[.int .i64 (wh v0), .int .u64 (wl v0)]), (5, 70, .pointer (some ⟨w.heap.size, 0, none⟩)), (6, 71, .int .i64 a), (7, 72, .pointer (some ⟨w.heap.size + 1, 1, none⟩)), (8, 73, .int .i64 d), (9, 74, .agg #[.int .i64 (wh v1), .int .u64 (wl v1)]), (10, 75, .pointer (some ⟨w.heap.size, 1, none⟩)), (11, 76, .int .i64 b), (12, 77, .pointer (some ⟨w.heap.size + 1, 0, none⟩)), (13, 78, .int .i64 c), (14, 79, .agg #[.int .i64 (wh v2), .int .u64 (wl v2)]), (15, 80, .pointer (some ⟨w.heap.size, 1, none⟩)), (16, 81, .int .i64 b), (17, 82, .pointer (some ⟨w.heap.size + 1, 1, none⟩)), (18, 83, .int .i64 d), (19, 84, .agg #[.int .i64 (wh v3), .int .u64 (wl v3)]), (20, 11, .pointer (some ⟨b0, 0, none⟩)), (21, 12, .pointer (some ⟨b1, 0, none⟩)), (22, 13, .pointer (some ⟨b2, 0, none⟩)), (23, 14, .pointer (some ⟨b3, 0, none⟩))] _) _
        rw [← hV]
        refine wpOp_of (by simp only [List.getElem?_toArray, List.getElem?_cons_succ, List.getElem?_cons_zero]; rfl) rfl ?_
        have eE : ∀ (args : Array Value) (w : World), (callFunc 8 args).run Try.prog w = .ok (.enter 8 args) w := enters_of Try.func8 (by kernel_rfl) rfl
        refine wp_call (f := 8) (args := #[.int .i64 b, .int .i64 c]) ?_ ((Hc2.out x).mono ?_)
        · clear hV hV0
          simp only [execOp, Go.resolve, List.map_toArray, List.map_cons, List.map_nil]
          rw [ev76 _ (by first | rfl | decide | (simp; done))]
          rw [ev78 _ (by first | rfl | decide | (simp; done))]
          first | (simp [go_sem, eE]; done) | (simp [go_sem, eE, *]; done)
        · rintro e w_ ⟨rfl, hk2⟩
          refine ⟨(b0, b1, b2, b3), ((putL_set (by omega) hnn N1 N2 (by rw [hV]; exact List.mem_of_getElem? (i := 14) rfl)).symm.trans (by rw [hV0])), by simp [hl], hk.trans hk2, ?_, ?_, ?_, ?_, ?_, ?_, ?_, ?_, ?_, ?_, ?_, ?_, ?_, ?_⟩
          · intro q
            rw [g20] at q
            obtain ⟨t1, t2, t3⟩ := h20 q
            exact ⟨t1, fun z => OwnB.kept hk2 (t2 (by rwa [g24] at z)), fun z => OwnB.kept hk2 (t3 (by rwa [g24] at z))⟩
          · intro q
            rw [g21] at q
            obtain ⟨t1, t2, t3⟩ := h21 q
            exact ⟨t1, fun z => OwnB.kept hk2 (t2 (by rwa [g25] at z)), fun z => OwnB.kept hk2 (t3 (by rwa [g25] at z))⟩
          · intro q
            rw [g22] at q
            obtain ⟨t1, t2, t3⟩ := h22 q
            exact ⟨t1, fun z => OwnB.kept hk2 (t2 (by rwa [g26] at z)), fun z => OwnB.kept hk2 (t3 (by rwa [g26] at z))⟩
          · intro q
            rw [g23] at q
            obtain ⟨t1, t2, t3⟩ := h23 q
            exact ⟨t1, fun z => OwnB.kept hk2 (t2 (by rwa [g27] at z)), fun z => OwnB.kept hk2 (t3 (by rwa [g27] at z))⟩
          all_goals (simp only [g20, g21, g22, g23, g24, g25, g26, g27]; assumption)
      · -- 15
        have ev2 : ∀ (A : Act), A.eval (.tmp 2) = (.pointer (some ⟨w.heap.size, 0, none⟩)) → (putL l V A).eval (.tmp 2) = (.pointer (some ⟨w.heap.size, 0, none⟩)) := fun A h => (putL_eval_out (by rw [hV]; show 2 ∉ ([65, 66, 67, 68, 69, 70, 71, 72, 73, 74, 75, 76, 77, 78, 79, 80, 81, 82, 83, 84, 11, 12, 13, 14] : List Nat); decide)).trans h
        have g20 : (l.setIfInBounds 15 true).getD 20 false = l.getD 20 false := getD_set_ne false (by decide)
        have g21 : (l.setIfInBounds 15 true).getD 21 false = l.getD 21 false := getD_set_ne false (by decide)
        have g22 : (l.setIfInBounds 15 true).getD 22 false = l.getD 22 false := getD_set_ne false (by decide)
        have g23 : (l.setIfInBounds 15 true).getD 23 false = l.getD 23 false := getD_set_ne false (by decide)
        have g24 : (l.setIfInBounds 15 true).getD 24 false = l.getD 24 false := getD_set_ne false (by decide)
        have g25 : (l.setIfInBounds 15 true).getD 25 false = l.getD 25 false := getD_set_ne false (by decide)
        have g26 : (l.setIfInBounds 15 true).getD 26 false = l.getD 26 false := getD_set_ne false (by decide)
        have g27 : (l.setIfInBounds 15 true).getD 27 false = l.getD 27 false := getD_set_ne false (by decide)
        change wpOp _ _ _ _ _ (putL l [(0, 65, .pointer (some ⟨w.heap.size, 0, none⟩)), (1, 66, .int .i64 a), (2, 67, .pointer (some ⟨w.heap.size + 1, 0, none⟩)), (3, 68, .int .i64 c), (4, 69, .agg #[.int .i64 (wh v0), .int .u64 (wl v0)]), (5, 70, .pointer (some ⟨w.heap.size, 0, none⟩)), (6, 71, .int .i64 a), (7, 72, .pointer (some ⟨w.heap.size + 1, 1, none⟩)), (8, 73, .int .i64 d), (9, 74, .agg #[.int .i64 (wh v1), .int .u64 (wl v1)]), (10, 75, .pointer (some ⟨w.heap.size, 1, none⟩)), (11, 76, .int .i64 b), (12, 77, .pointer (some ⟨w.heap.size + 1, 0, none⟩)), (13, 78, .int .i64 c), (14, 79, .agg #[.int .i64 (wh v2), .int .u64 (wl v2)]), (15, 80, .pointer (some ⟨w.heap.size, 1, none⟩)), (16, 81, .int .i64 b), (17, 82, .pointer (some ⟨w.heap.size + 1, 1, none⟩)), (18, 83, .int .i64 d), (19, 84, .agg #[.int .i64 (wh v3), .int .u64 (wl v3)]), (20, 11, .pointer (some ⟨b0, 0, none⟩)), (21, 12, .pointer (some ⟨b1, 0, none⟩)), (22, 13, .pointer (some ⟨b2, 0, none⟩)), (23, 14, .pointer (some ⟨b3, 0, none⟩))] _) _
        rw [← hV]
        refine wpOp_of (by simp only [List.getElem?_toArray, List.getElem?_cons_succ, List.getElem?_cons_zero]; rfl) rfl ?_
        refine wp_value (v := .pointer (some ⟨w.heap.size, 1, none⟩)) (w' := x) ?_ ⟨(b0, b1, b2, b3), ((putL_set (by omega) hnn N1 N2 (by rw [hV]; exact List.mem_of_getElem? (i := 15) rfl)).symm.trans (by rw [hV0])), by simp [hl], hk, ?_, ?_, ?_, ?_, ?_, ?_, ?_, ?_, ?_, ?_, ?_, ?_, ?_, ?_⟩
        · clear hV hV0
          simp only [execOp, Go.resolve, List.map_toArray, List.map_cons, List.map_nil]
          rw [ev2 _ (by first | rfl | decide | (simp; done))]
          first | (simp [go_sem]; done) | (simp [go_sem, *]; done)
        all_goals (simp only [g20, g21, g22, g23, g24, g25, g26, g27]; assumption)
      · -- 16
        have ev80 : ∀ (A : Act), 80 < A.tmps.size → (putL l V A).eval (.tmp 80) = (.pointer (some ⟨w.heap.size, 1, none⟩)) := fun A h => putL_eval (i := 15) (ready_on hi (by kernel_rfl)) N2 (by rw [hV]; exact List.mem_of_getElem? (i := 15) rfl) h
        have g20 : (l.setIfInBounds 16 true).getD 20 false = l.getD 20 false := getD_set_ne false (by decide)
        have g21 : (l.setIfInBounds 16 true).getD 21 false = l.getD 21 false := getD_set_ne false (by decide)
        have g22 : (l.setIfInBounds 16 true).getD 22 false = l.getD 22 false := getD_set_ne false (by decide)
        have g23 : (l.setIfInBounds 16 true).getD 23 false = l.getD 23 false := getD_set_ne false (by decide)
        have g24 : (l.setIfInBounds 16 true).getD 24 false = l.getD 24 false := getD_set_ne false (by decide)
        have g25 : (l.setIfInBounds 16 true).getD 25 false = l.getD 25 false := getD_set_ne false (by decide)
        have g26 : (l.setIfInBounds 16 true).getD 26 false = l.getD 26 false := getD_set_ne false (by decide)
        have g27 : (l.setIfInBounds 16 true).getD 27 false = l.getD 27 false := getD_set_ne false (by decide)
        change wpOp _ _ _ _ _ (putL l [(0, 65, .pointer (some ⟨w.heap.size, 0, none⟩)), (1, 66, .int .i64 a), (2, 67, .pointer (some ⟨w.heap.size + 1, 0, none⟩)), (3, 68, .int .i64 c), (4, 69, .agg #[.int .i64 (wh v0), .int .u64 (wl v0)]), (5, 70, .pointer (some ⟨w.heap.size, 0, none⟩)), (6, 71, .int .i64 a), (7, 72, .pointer (some ⟨w.heap.size + 1, 1, none⟩)), (8, 73, .int .i64 d), (9, 74, .agg #[.int .i64 (wh v1), .int .u64 (wl v1)]), (10, 75, .pointer (some ⟨w.heap.size, 1, none⟩)), (11, 76, .int .i64 b), (12, 77, .pointer (some ⟨w.heap.size + 1, 0, none⟩)), (13, 78, .int .i64 c), (14, 79, .agg #[.int .i64 (wh v2), .int .u64 (wl v2)]), (15, 80, .pointer (some ⟨w.heap.size, 1, none⟩)), (16, 81, .int .i64 b), (17, 82, .pointer (some ⟨w.heap.size + 1, 1, none⟩)), (18, 83, .int .i64 d), (19, 84, .agg #[.int .i64 (wh v3), .int .u64 (wl v3)]), (20, 11, .pointer (some ⟨b0, 0, none⟩)), (21, 12, .pointer (some ⟨b1, 0, none⟩)), (22, 13, .pointer (some ⟨b2, 0, none⟩)), (23, 14, .pointer (some ⟨b3, 0, none⟩))] _) _
        rw [← hV]
        refine wpOp_of (by simp only [List.getElem?_toArray, List.getElem?_cons_succ, List.getElem?_cons_zero]; rfl) rfl ?_
        refine wp_value (v := .int .i64 b) (w' := x) ?_ ⟨(b0, b1, b2, b3), ((putL_set (by omega) hnn N1 N2 (by rw [hV]; exact List.mem_of_getElem? (i := 16) rfl)).symm.trans (by rw [hV0])), by simp [hl], hk, ?_, ?_, ?_, ?_, ?_, ?_, ?_, ?_, ?_, ?_, ?_, ?_, ?_, ?_⟩
        · clear hV hV0
          simp only [execOp, Go.resolve, List.map_toArray, List.map_cons, List.map_nil]
          rw [ev80 _ (by first | rfl | decide | (simp; done))]
          obtain ⟨oz, og, oc0, oc1, _⟩ := OwnB.kept hk HB1_2.out
          first | (simp [go_sem]; done) | (simp [go_sem, *]; done)
        all_goals (simp only [g20, g21, g22, g23, g24, g25, g26, g27]; assumption)
      · -- 17
        have ev3 : ∀ (A : Act), A.eval (.tmp 3) = (.pointer (some ⟨w.heap.size + 1, 0, none⟩)) → (putL l V A).eval (.tmp 3) = (.pointer (some ⟨w.heap.size + 1, 0, none⟩)) := fun A h => (putL_eval_out (by rw [hV]; show 3 ∉ ([65, 66, 67, 68, 69, 70, 71, 72, 73, 74, 75, 76, 77, 78, 79, 80, 81, 82, 83, 84, 11, 12, 13, 14] : List Nat); decide)).trans h
        have g20 : (l.setIfInBounds 17 true).getD 20 false = l.getD 20 false := getD_set_ne false (by decide)
        have g21 : (l.setIfInBounds 17 true).getD 21 false = l.getD 21 false := getD_set_ne false (by decide)
        have g22 : (l.setIfInBounds 17 true).getD 22 false = l.getD 22 false := getD_set_ne false (by decide)
        have g23 : (l.setIfInBounds 17 true).getD 23 false = l.getD 23 false := getD_set_ne false (by decide)
        have g24 : (l.setIfInBounds 17 true).getD 24 false = l.getD 24 false := getD_set_ne false (by decide)
        have g25 : (l.setIfInBounds 17 true).getD 25 false = l.getD 25 false := getD_set_ne false (by decide)
        have g26 : (l.setIfInBounds 17 true).getD 26 false = l.getD 26 false := getD_set_ne false (by decide)
        have g27 : (l.setIfInBounds 17 true).getD 27 false = l.getD 27 false := getD_set_ne false (by decide)
        change wpOp _ _ _ _ _ (putL l [(0, 65, .pointer (some ⟨w.heap.size, 0, none⟩)), (1, 66, .int .i64 a), (2, 67, .pointer (some ⟨w.heap.size + 1, 0, none⟩)), (3, 68, .int .i64 c), (4, 69, .agg #[.int .i64 (wh v0), .int .u64 (wl v0)]), (5, 70, .pointer (some ⟨w.heap.size, 0, none⟩)), (6, 71, .int .i64 a), (7, 72, .pointer (some ⟨w.heap.size + 1, 1, none⟩)), (8, 73, .int .i64 d), (9, 74, .agg #[.int .i64 (wh v1), .int .u64 (wl v1)]), (10, 75, .pointer (some ⟨w.heap.size, 1, none⟩)), (11, 76, .int .i64 b), (12, 77, .pointer (some ⟨w.heap.size + 1, 0, none⟩)), (13, 78, .int .i64 c), (14, 79, .agg #[.int .i64 (wh v2), .int .u64 (wl v2)]), (15, 80, .pointer (some ⟨w.heap.size, 1, none⟩)), (16, 81, .int .i64 b), (17, 82, .pointer (some ⟨w.heap.size + 1, 1, none⟩)), (18, 83, .int .i64 d), (19, 84, .agg #[.int .i64 (wh v3), .int .u64 (wl v3)]), (20, 11, .pointer (some ⟨b0, 0, none⟩)), (21, 12, .pointer (some ⟨b1, 0, none⟩)), (22, 13, .pointer (some ⟨b2, 0, none⟩)), (23, 14, .pointer (some ⟨b3, 0, none⟩))] _) _
        rw [← hV]
        refine wpOp_of (by simp only [List.getElem?_toArray, List.getElem?_cons_succ, List.getElem?_cons_zero]; rfl) rfl ?_
        refine wp_value (v := .pointer (some ⟨w.heap.size + 1, 1, none⟩)) (w' := x) ?_ ⟨(b0, b1, b2, b3), ((putL_set (by omega) hnn N1 N2 (by rw [hV]; exact List.mem_of_getElem? (i := 17) rfl)).symm.trans (by rw [hV0])), by simp [hl], hk, ?_, ?_, ?_, ?_, ?_, ?_, ?_, ?_, ?_, ?_, ?_, ?_, ?_, ?_⟩
        · clear hV hV0
          simp only [execOp, Go.resolve, List.map_toArray, List.map_cons, List.map_nil]
          rw [ev3 _ (by first | rfl | decide | (simp; done))]
          first | (simp [go_sem]; done) | (simp [go_sem, *]; done)
        all_goals (simp only [g20, g21, g22, g23, g24, g25, g26, g27]; assumption)
      · -- 18
        have ev82 : ∀ (A : Act), 82 < A.tmps.size → (putL l V A).eval (.tmp 82) = (.pointer (some ⟨w.heap.size + 1, 1, none⟩)) := fun A h => putL_eval (i := 17) (ready_on hi (by kernel_rfl)) N2 (by rw [hV]; exact List.mem_of_getElem? (i := 17) rfl) h
        have g20 : (l.setIfInBounds 18 true).getD 20 false = l.getD 20 false := getD_set_ne false (by decide)
        have g21 : (l.setIfInBounds 18 true).getD 21 false = l.getD 21 false := getD_set_ne false (by decide)
        have g22 : (l.setIfInBounds 18 true).getD 22 false = l.getD 22 false := getD_set_ne false (by decide)
        have g23 : (l.setIfInBounds 18 true).getD 23 false = l.getD 23 false := getD_set_ne false (by decide)
        have g24 : (l.setIfInBounds 18 true).getD 24 false = l.getD 24 false := getD_set_ne false (by decide)
        have g25 : (l.setIfInBounds 18 true).getD 25 false = l.getD 25 false := getD_set_ne false (by decide)
        have g26 : (l.setIfInBounds 18 true).getD 26 false = l.getD 26 false := getD_set_ne false (by decide)
        have g27 : (l.setIfInBounds 18 true).getD 27 false = l.getD 27 false := getD_set_ne false (by decide)
        change wpOp _ _ _ _ _ (putL l [(0, 65, .pointer (some ⟨w.heap.size, 0, none⟩)), (1, 66, .int .i64 a), (2, 67, .pointer (some ⟨w.heap.size + 1, 0, none⟩)), (3, 68, .int .i64 c), (4, 69, .agg #[.int .i64 (wh v0), .int .u64 (wl v0)]), (5, 70, .pointer (some ⟨w.heap.size, 0, none⟩)), (6, 71, .int .i64 a), (7, 72, .pointer (some ⟨w.heap.size + 1, 1, none⟩)), (8, 73, .int .i64 d), (9, 74, .agg #[.int .i64 (wh v1), .int .u64 (wl v1)]), (10, 75, .pointer (some ⟨w.heap.size, 1, none⟩)), (11, 76, .int .i64 b), (12, 77, .pointer (some ⟨w.heap.size + 1, 0, none⟩)), (13, 78, .int .i64 c), (14, 79, .agg #[.int .i64 (wh v2), .int .u64 (wl v2)]), (15, 80, .pointer (some ⟨w.heap.size, 1, none⟩)), (16, 81, .int .i64 b), (17, 82, .pointer (some ⟨w.heap.size + 1, 1, none⟩)), (18, 83, .int .i64 d), (19, 84, .agg #[.int .i64 (wh v3), .int .u64 (wl v3)]), (20, 11, .pointer (some ⟨b0, 0, none⟩)), (21, 12, .pointer (some ⟨b1, 0, none⟩)), (22, 13, .pointer (some ⟨b2, 0, none⟩)), (23, 14, .pointer (some ⟨b3, 0, none⟩))] _) _
        rw [← hV]
        refine wpOp_of (by simp only [List.getElem?_toArray, List.getElem?_cons_succ, List.getElem?_cons_zero]; rfl) rfl ?_
        refine wp_value (v := .int .i64 d) (w' := x) ?_ ⟨(b0, b1, b2, b3), ((putL_set (by omega) hnn N1 N2 (by rw [hV]; exact List.mem_of_getElem? (i := 18) rfl)).symm.trans (by rw [hV0])), by simp [hl], hk, ?_, ?_, ?_, ?_, ?_, ?_, ?_, ?_, ?_, ?_, ?_, ?_, ?_, ?_⟩
        · clear hV hV0
          simp only [execOp, Go.resolve, List.map_toArray, List.map_cons, List.map_nil]
          rw [ev82 _ (by first | rfl | decide | (simp; done))]
          obtain ⟨oz, og, oc0, oc1, _⟩ := OwnB.kept hk HB1_3.out
          first | (simp [go_sem]; done) | (simp [go_sem, *]; done)
        all_goals (simp only [g20, g21, g22, g23, g24, g25, g26, g27]; assumption)
      · -- 19
        have ev81 : ∀ (A : Act), 81 < A.tmps.size → (putL l V A).eval (.tmp 81) = (.int .i64 b) := fun A h => putL_eval (i := 16) (ready_on hi (by kernel_rfl)) N2 (by rw [hV]; exact List.mem_of_getElem? (i := 16) rfl) h
        have ev83 : ∀ (A : Act), 83 < A.tmps.size → (putL l V A).eval (.tmp 83) = (.int .i64 d) := fun A h => putL_eval (i := 18) (ready_on hi (by kernel_rfl)) N2 (by rw [hV]; exact List.mem_of_getElem? (i := 18) rfl) h
        have g20 : (l.setIfInBounds 19 true).getD 20 false = l.getD 20 false := getD_set_ne false (by decide)
        have g21 : (l.setIfInBounds 19 true).getD 21 false = l.getD 21 false := getD_set_ne false (by decide)
        have g22 : (l.setIfInBounds 19 true).getD 22 false = l.getD 22 false := getD_set_ne false (by decide)
        have g23 : (l.setIfInBounds 19 true).getD 23 false = l.getD 23 false := getD_set_ne false (by decide)
        have g24 : (l.setIfInBounds 19 true).getD 24 false = l.getD 24 false := getD_set_ne false (by decide)
        have g25 : (l.setIfInBounds 19 true).getD 25 false = l.getD 25 false := getD_set_ne false (by decide)
        have g26 : (l.setIfInBounds 19 true).getD 26 false = l.getD 26 false := getD_set_ne false (by decide)
        have g27 : (l.setIfInBounds 19 true).getD 27 false = l.getD 27 false := getD_set_ne false (by decide)
        change wpOp _ _ _ _ _ (putL l [(0, 65, .pointer (some ⟨w.heap.size, 0, none⟩)), (1, 66, .int .i64 a), (2, 67, .pointer (some ⟨w.heap.size + 1, 0, none⟩)), (3, 68, .int .i64 c), (4, 69, .agg #[.int .i64 (wh v0), .int .u64 (wl v0)]), (5, 70, .pointer (some ⟨w.heap.size, 0, none⟩)), (6, 71, .int .i64 a), (7, 72, .pointer (some ⟨w.heap.size + 1, 1, none⟩)), (8, 73, .int .i64 d), (9, 74, .agg #[.int .i64 (wh v1), .int .u64 (wl v1)]), (10, 75, .pointer (some ⟨w.heap.size, 1, none⟩)), (11, 76, .int .i64 b), (12, 77, .pointer (some ⟨w.heap.size + 1, 0, none⟩)), (13, 78, .int .i64 c), (14, 79, .agg #[.int .i64 (wh v2), .int .u64 (wl v2)]), (15, 80, .pointer (some ⟨w.heap.size, 1, none⟩)), (16, 81, .int .i64 b), (17, 82, .pointer (some ⟨w.heap.size + 1, 1, none⟩)), (18, 83, .int .i64 d), (19, 84, .agg #[.int .i64 (wh v3), .int .u64 (wl v3)]), (20, 11, .pointer (some ⟨b0, 0, none⟩)), (21, 12, .pointer (some ⟨b1, 0, none⟩)), (22, 13, .pointer (some ⟨b2, 0, none⟩)), (23, 14, .pointer (some ⟨b3, 0, none⟩))] _) _
        rw [← hV]
        refine wpOp_of (by simp only [List.getElem?_toArray, List.getElem?_cons_succ, List.getElem?_cons_zero]; rfl) rfl ?_
        have eE : ∀ (args : Array Value) (w : World), (callFunc 8 args).run Try.prog w = .ok (.enter 8 args) w := enters_of Try.func8 (by kernel_rfl) rfl
        refine wp_call (f := 8) (args := #[.int .i64 b, .int .i64 d]) ?_ ((Hc3.out x).mono ?_)
        · clear hV hV0
          simp only [execOp, Go.resolve, List.map_toArray, List.map_cons, List.map_nil]
          rw [ev81 _ (by first | rfl | decide | (simp; done))]
          rw [ev83 _ (by first | rfl | decide | (simp; done))]
          first | (simp [go_sem, eE]; done) | (simp [go_sem, eE, *]; done)
        · rintro e w_ ⟨rfl, hk2⟩
          refine ⟨(b0, b1, b2, b3), ((putL_set (by omega) hnn N1 N2 (by rw [hV]; exact List.mem_of_getElem? (i := 19) rfl)).symm.trans (by rw [hV0])), by simp [hl], hk.trans hk2, ?_, ?_, ?_, ?_, ?_, ?_, ?_, ?_, ?_, ?_, ?_, ?_, ?_, ?_⟩
          · intro q
            rw [g20] at q
            obtain ⟨t1, t2, t3⟩ := h20 q
            exact ⟨t1, fun z => OwnB.kept hk2 (t2 (by rwa [g24] at z)), fun z => OwnB.kept hk2 (t3 (by rwa [g24] at z))⟩
          · intro q
            rw [g21] at q
            obtain ⟨t1, t2, t3⟩ := h21 q
            exact ⟨t1, fun z => OwnB.kept hk2 (t2 (by rwa [g25] at z)), fun z => OwnB.kept hk2 (t3 (by rwa [g25] at z))⟩
          · intro q
            rw [g22] at q
            obtain ⟨t1, t2, t3⟩ := h22 q
            exact ⟨t1, fun z => OwnB.kept hk2 (t2 (by rwa [g26] at z)), fun z => OwnB.kept hk2 (t3 (by rwa [g26] at z))⟩
          · intro q
            rw [g23] at q
            obtain ⟨t1, t2, t3⟩ := h23 q
            exact ⟨t1, fun z => OwnB.kept hk2 (t2 (by rwa [g27] at z)), fun z => OwnB.kept hk2 (t3 (by rwa [g27] at z))⟩
          all_goals (simp only [g20, g21, g22, g23, g24, g25, g26, g27]; assumption)
      · -- 20
        have g21 : (l.setIfInBounds 20 true).getD 21 false = l.getD 21 false := getD_set_ne false (by decide)
        have g22 : (l.setIfInBounds 20 true).getD 22 false = l.getD 22 false := getD_set_ne false (by decide)
        have g23 : (l.setIfInBounds 20 true).getD 23 false = l.getD 23 false := getD_set_ne false (by decide)
        have g24 : (l.setIfInBounds 20 true).getD 24 false = l.getD 24 false := getD_set_ne false (by decide)
        have g25 : (l.setIfInBounds 20 true).getD 25 false = l.getD 25 false := getD_set_ne false (by decide)
        have g26 : (l.setIfInBounds 20 true).getD 26 false = l.getD 26 false := getD_set_ne false (by decide)
        have g27 : (l.setIfInBounds 20 true).getD 27 false = l.getD 27 false := getD_set_ne false (by decide)
        change wpOp _ _ _ _ _ (putL l [(0, 65, .pointer (some ⟨w.heap.size, 0, none⟩)), (1, 66, .int .i64 a), (2, 67, .pointer (some ⟨w.heap.size + 1, 0, none⟩)), (3, 68, .int .i64 c), (4, 69, .agg #[.int .i64 (wh v0), .int .u64 (wl v0)]), (5, 70, .pointer (some ⟨w.heap.size, 0, none⟩)), (6, 71, .int .i64 a), (7, 72, .pointer (some ⟨w.heap.size + 1, 1, none⟩)), (8, 73, .int .i64 d), (9, 74, .agg #[.int .i64 (wh v1), .int .u64 (wl v1)]), (10, 75, .pointer (some ⟨w.heap.size, 1, none⟩)), (11, 76, .int .i64 b), (12, 77, .pointer (some ⟨w.heap.size + 1, 0, none⟩)), (13, 78, .int .i64 c), (14, 79, .agg #[.int .i64 (wh v2), .int .u64 (wl v2)]), (15, 80, .pointer (some ⟨w.heap.size, 1, none⟩)), (16, 81, .int .i64 b), (17, 82, .pointer (some ⟨w.heap.size + 1, 1, none⟩)), (18, 83, .int .i64 d), (19, 84, .agg #[.int .i64 (wh v3), .int .u64 (wl v3)]), (20, 11, .pointer (some ⟨b0, 0, none⟩)), (21, 12, .pointer (some ⟨b1, 0, none⟩)), (22, 13, .pointer (some ⟨b2, 0, none⟩)), (23, 14, .pointer (some ⟨b3, 0, none⟩))] _) _
        rw [← hV]
        refine wpOp_of (by simp only [List.getElem?_toArray, List.getElem?_cons_succ, List.getElem?_cons_zero]; rfl) rfl ?_
        have gi : (l.setIfInBounds 20 true).getD 20 false = true := by simp [show 20 < l.size by omega]
        have hs24 : l.getD 24 false = false := by
          cases hc : l.getD 24 false with
          | false => rfl
          | true => have := d20 hc; rw [hnn] at this; cases this
        obtain ⟨V2, hV2⟩ : ∃ V2 : List (Nat × Nat × Value), V2 = [(0, 65, .pointer (some ⟨w.heap.size, 0, none⟩)), (1, 66, .int .i64 a), (2, 67, .pointer (some ⟨w.heap.size + 1, 0, none⟩)), (3, 68, .int .i64 c), (4, 69, .agg #[.int .i64 (wh v0), .int .u64 (wl v0)]), (5, 70, .pointer (some ⟨w.heap.size, 0, none⟩)), (6, 71, .int .i64 a), (7, 72, .pointer (some ⟨w.heap.size + 1, 1, none⟩)), (8, 73, .int .i64 d), (9, 74, .agg #[.int .i64 (wh v1), .int .u64 (wl v1)]), (10, 75, .pointer (some ⟨w.heap.size, 1, none⟩)), (11, 76, .int .i64 b), (12, 77, .pointer (some ⟨w.heap.size + 1, 0, none⟩)), (13, 78, .int .i64 c), (14, 79, .agg #[.int .i64 (wh v2), .int .u64 (wl v2)]), (15, 80, .pointer (some ⟨w.heap.size, 1, none⟩)), (16, 81, .int .i64 b), (17, 82, .pointer (some ⟨w.heap.size + 1, 1, none⟩)), (18, 83, .int .i64 d), (19, 84, .agg #[.int .i64 (wh v3), .int .u64 (wl v3)]), (20, 11, .pointer (some ⟨x.heap.size, 0, none⟩)), (21, 12, .pointer (some ⟨b1, 0, none⟩)), (22, 13, .pointer (some ⟨b2, 0, none⟩)), (23, 14, .pointer (some ⟨b3, 0, none⟩))] := ⟨_, rfl⟩
        have M1 : (V2.map (·.1)).Nodup := by rw [hV2]; show ([0, 1, 2, 3, 4, 5, 6, 7, 8, 9, 10, 11, 12, 13, 14, 15, 16, 17, 18, 19, 20, 21, 22, 23] : List Nat).Nodup; decide
        have M2 : (V2.map (·.2.1)).Nodup := by rw [hV2]; show ([65, 66, 67, 68, 69, 70, 71, 72, 73, 74, 75, 76, 77, 78, 79, 80, 81, 82, 83, 84, 11, 12, 13, 14] : List Nat).Nodup; decide
        have hcg : ∀ A : Act, putL l V2 A = putL l V A := fun A => by rw [hV2, hV]; exact putL_mid hnn _ [(0, 65, .pointer (some ⟨w.heap.size, 0, none⟩)), (1, 66, .int .i64 a), (2, 67, .pointer (some ⟨w.heap.size + 1, 0, none⟩)), (3, 68, .int .i64 c), (4, 69, .agg #[.int .i64 (wh v0), .int .u64 (wl v0)]), (5, 70, .pointer (some ⟨w.heap.size, 0, none⟩)), (6, 71, .int .i64 a), (7, 72, .pointer (some ⟨w.heap.size + 1, 1, none⟩)), (8, 73, .int .i64 d), (9, 74, .agg #[.int .i64 (wh v1), .int .u64 (wl v1)]), (10, 75, .pointer (some ⟨w.heap.size, 1, none⟩)), (11, 76, .int .i64 b), (12, 77, .pointer (some ⟨w.heap.size + 1, 0, none⟩)), (13, 78, .int .i64 c), (14, 79, .agg #[.int .i64 (wh v2), .int .u64 (wl v2)]), (15, 80, .pointer (some ⟨w.heap.size, 1, none⟩)), (16, 81, .int .i64 b), (17, 82, .pointer (some ⟨w.heap.size + 1, 1, none⟩)), (18, 83, .int .i64 d), (19, 84, .agg #[.int .i64 (wh v3), .int .u64 (wl v3)])] [(21, 12, .pointer (some ⟨b1, 0, none⟩)), (22, 13, .pointer (some ⟨b2, 0, none⟩)), (23, 14, .pointer (some ⟨b3, 0, none⟩))]
        refine wp_value (v := .pointer (some ⟨x.heap.size, 0, none⟩)) (w' := x.alloc (.cells #[.int .i64 0, .int .u64 0] 30)) ?_ ⟨(x.heap.size, b1, b2, b3), (show _ = putL (l.setIfInBounds 20 true) [(0, 65, .pointer (some ⟨w.heap.size, 0, none⟩)), (1, 66, .int .i64 a), (2, 67, .pointer (some ⟨w.heap.size + 1, 0, none⟩)), (3, 68, .int .i64 c), (4, 69, .agg #[.int .i64 (wh v0), .int .u64 (wl v0)]), (5, 70, .pointer (some ⟨w.heap.size, 0, none⟩)), (6, 71, .int .i64 a), (7, 72, .pointer (some ⟨w.heap.size + 1, 1, none⟩)), (8, 73, .int .i64 d), (9, 74, .agg #[.int .i64 (wh v1), .int .u64 (wl v1)]), (10, 75, .pointer (some ⟨w.heap.size, 1, none⟩)), (11, 76, .int .i64 b), (12, 77, .pointer (some ⟨w.heap.size + 1, 0, none⟩)), (13, 78, .int .i64 c), (14, 79, .agg #[.int .i64 (wh v2), .int .u64 (wl v2)]), (15, 80, .pointer (some ⟨w.heap.size, 1, none⟩)), (16, 81, .int .i64 b), (17, 82, .pointer (some ⟨w.heap.size + 1, 1, none⟩)), (18, 83, .int .i64 d), (19, 84, .agg #[.int .i64 (wh v3), .int .u64 (wl v3)]), (20, 11, .pointer (some ⟨x.heap.size, 0, none⟩)), (21, 12, .pointer (some ⟨b1, 0, none⟩)), (22, 13, .pointer (some ⟨b2, 0, none⟩)), (23, 14, .pointer (some ⟨b3, 0, none⟩))] _ by rw [← hV2, putL_set (by omega) hnn M1 M2 (by rw [hV2]; exact List.mem_of_getElem? (i := 20) rfl), hcg]), by simp [hl], hk.alloc _, ?_, ?_, ?_, ?_, ?_, ?_, ?_, ?_, ?_, ?_, ?_, ?_, ?_, ?_⟩
        · clear hV hV0 hV2
          simp only [execOp]
          first | (simp [go_sem]; done) | (simp [go_sem, *]; done)
        · intro _
          refine ⟨hk.size, fun q => ?_, fun _ => own_alloc x [.int .i64 0, .int .u64 0] 30⟩
          rw [g24, hs24] at q; cases q
        · intro q
          rw [g21] at q
          obtain ⟨q1, q2, q3⟩ := h21 q
          exact ⟨q1, fun z => OwnB.alloc (q2 (by rwa [g25] at z)) _, fun z => OwnB.alloc (q3 (by rwa [g25] at z)) _⟩
        · intro q
          rw [g22] at q
          obtain ⟨q1, q2, q3⟩ := h22 q
          exact ⟨q1, fun z => OwnB.alloc (q2 (by rwa [g26] at z)) _, fun z => OwnB.alloc (q3 (by rwa [g26] at z)) _⟩
        · intro q
          rw [g23] at q
          obtain ⟨q1, q2, q3⟩ := h23 q
          exact ⟨q1, fun z => OwnB.alloc (q2 (by rwa [g27] at z)) _, fun z => OwnB.alloc (q3 (by rwa [g27] at z)) _⟩
        · intro qa qb
          have qo : l.getD 21 false = true := by first | (rwa [g21] at qa) | (rwa [g21] at qb)
          obtain ⟨_, q2, q3⟩ := h21 qo
          have lt : b1 < x.heap.size := by
            cases hc : l.getD 25 false with
            | true => exact (q2 hc).1
            | false => exact (q3 hc).1
          (try simp only []); omega
        · intro qa qb
          have qo : l.getD 22 false = true := by first | (rwa [g22] at qa) | (rwa [g22] at qb)
          obtain ⟨_, q2, q3⟩ := h22 qo
          have lt : b2 < x.heap.size := by
            cases hc : l.getD 26 false with
            | true => exact (q2 hc).1
            | false => exact (q3 hc).1
          (try simp only []); omega
        · simp only [g21, g22, g23, g24, g25, g26, g27]; assumption
        · intro qa qb
          have qo : l.getD 23 false = true := by first | (rwa [g23] at qa) | (rwa [g23] at qb)
          obtain ⟨_, q2, q3⟩ := h23 qo
          have lt : b3 < x.heap.size := by
            cases hc : l.getD 27 false with
            | true => exact (q2 hc).1
            | false => exact (q3 hc).1
          (try simp only []); omega
        · simp only [g21, g22, g23, g24, g25, g26, g27]; assumption
        · simp only [g21, g22, g23, g24, g25, g26, g27]; assumption
        · intro _; exact gi
        · simp only [g21, g22, g23, g24, g25, g26, g27]; assumption
        · simp only [g21, g22, g23, g24, g25, g26, g27]; assumption
        · simp only [g21, g22, g23, g24, g25, g26, g27]; assumption
      · -- 21
        have g20 : (l.setIfInBounds 21 true).getD 20 false = l.getD 20 false := getD_set_ne false (by decide)
        have g22 : (l.setIfInBounds 21 true).getD 22 false = l.getD 22 false := getD_set_ne false (by decide)
        have g23 : (l.setIfInBounds 21 true).getD 23 false = l.getD 23 false := getD_set_ne false (by decide)
        have g24 : (l.setIfInBounds 21 true).getD 24 false = l.getD 24 false := getD_set_ne false (by decide)
        have g25 : (l.setIfInBounds 21 true).getD 25 false = l.getD 25 false := getD_set_ne false (by decide)
        have g26 : (l.setIfInBounds 21 true).getD 26 false = l.getD 26 false := getD_set_ne false (by decide)
        have g27 : (l.setIfInBounds 21 true).getD 27 false = l.getD 27 false := getD_set_ne false (by decide)
        change wpOp _ _ _ _ _ (putL l [(0, 65, .pointer (some ⟨w.heap.size, 0, none⟩)), (1, 66, .int .i64 a), (2, 67, .pointer (some ⟨w.heap.size + 1, 0, none⟩)), (3, 68, .int .i64 c), (4, 69, .agg #[.int .i64 (wh v0), .int .u64 (wl v0)]), (5, 70, .pointer (some ⟨w.heap.size, 0, none⟩)), (6, 71, .int .i64 a), (7, 72, .pointer (some ⟨w.heap.size + 1, 1, none⟩)), (8, 73, .int .i64 d), (9, 74, .agg #[.int .i64 (wh v1), .int .u64 (wl v1)]), (10, 75, .pointer (some ⟨w.heap.size, 1, none⟩)), (11, 76, .int .i64 b), (12, 77, .pointer (some ⟨w.heap.size + 1, 0, none⟩)), (13, 78, .int .i64 c), (14, 79, .agg #[.int .i64 (wh v2), .int .u64 (wl v2)]), (15, 80, .pointer (some ⟨w.heap.size, 1, none⟩)), (16, 81, .int .i64 b), (17, 82, .pointer (some ⟨w.heap.size + 1, 1, none⟩)), (18, 83, .int .i64 d), (19, 84, .agg #[.int .i64 (wh v3), .int .u64 (wl v3)]), (20, 11, .pointer (some ⟨b0, 0, none⟩)), (21, 12, .pointer (some ⟨b1, 0, none⟩)), (22, 13, .pointer (some ⟨b2, 0, none⟩)), (23, 14, .pointer (some ⟨b3, 0, none⟩))] _) _
        rw [← hV]
        refine wpOp_of (by simp only [List.getElem?_toArray, List.getElem?_cons_succ, List.getElem?_cons_zero]; rfl) rfl ?_
        have gi : (l.setIfInBounds 21 true).getD 21 false = true := by simp [show 21 < l.size by omega]
        have hs25 : l.getD 25 false = false := by
          cases hc : l.getD 25 false with
          | false => rfl
          | true => have := d21 hc; rw [hnn] at this; cases this
        obtain ⟨V2, hV2⟩ : ∃ V2 : List (Nat × Nat × Value), V2 = [(0, 65, .pointer (some ⟨w.heap.size, 0, none⟩)), (1, 66, .int .i64 a), (2, 67, .pointer (some ⟨w.heap.size + 1, 0, none⟩)), (3, 68, .int .i64 c), (4, 69, .agg #[.int .i64 (wh v0), .int .u64 (wl v0)]), (5, 70, .pointer (some ⟨w.heap.size, 0, none⟩)), (6, 71, .int .i64 a), (7, 72, .pointer (some ⟨w.heap.size + 1, 1, none⟩)), (8, 73, .int .i64 d), (9, 74, .agg #[.int .i64 (wh v1), .int .u64 (wl v1)]), (10, 75, .pointer (some ⟨w.heap.size, 1, none⟩)), (11, 76, .int .i64 b), (12, 77, .pointer (some ⟨w.heap.size + 1, 0, none⟩)), (13, 78, .int .i64 c), (14, 79, .agg #[.int .i64 (wh v2), .int .u64 (wl v2)]), (15, 80, .pointer (some ⟨w.heap.size, 1, none⟩)), (16, 81, .int .i64 b), (17, 82, .pointer (some ⟨w.heap.size + 1, 1, none⟩)), (18, 83, .int .i64 d), (19, 84, .agg #[.int .i64 (wh v3), .int .u64 (wl v3)]), (20, 11, .pointer (some ⟨b0, 0, none⟩)), (21, 12, .pointer (some ⟨x.heap.size, 0, none⟩)), (22, 13, .pointer (some ⟨b2, 0, none⟩)), (23, 14, .pointer (some ⟨b3, 0, none⟩))] := ⟨_, rfl⟩
        have M1 : (V2.map (·.1)).Nodup := by rw [hV2]; show ([0, 1, 2, 3, 4, 5, 6, 7, 8, 9, 10, 11, 12, 13, 14, 15, 16, 17, 18, 19, 20, 21, 22, 23] : List Nat).Nodup; decide
        have M2 : (V2.map (·.2.1)).Nodup := by rw [hV2]; show ([65, 66, 67, 68, 69, 70, 71, 72, 73, 74, 75, 76, 77, 78, 79, 80, 81, 82, 83, 84, 11, 12, 13, 14] : List Nat).Nodup; decide
        have hcg : ∀ A : Act, putL l V2 A = putL l V A := fun A => by rw [hV2, hV]; exact putL_mid hnn _ [(0, 65, .pointer (some ⟨w.heap.size, 0, none⟩)), (1, 66, .int .i64 a), (2, 67, .pointer (some ⟨w.heap.size + 1, 0, none⟩)), (3, 68, .int .i64 c), (4, 69, .agg #[.int .i64 (wh v0), .int .u64 (wl v0)]), (5, 70, .pointer (some ⟨w.heap.size, 0, none⟩)), (6, 71, .int .i64 a), (7, 72, .pointer (some ⟨w.heap.size + 1, 1, none⟩)), (8, 73, .int .i64 d), (9, 74, .agg #[.int .i64 (wh v1), .int .u64 (wl v1)]), (10, 75, .pointer (some ⟨w.heap.size, 1, none⟩)), (11, 76, .int .i64 b), (12, 77, .pointer (some ⟨w.heap.size + 1, 0, none⟩)), (13, 78, .int .i64 c), (14, 79, .agg #[.int .i64 (wh v2), .int .u64 (wl v2)]), (15, 80, .pointer (some ⟨w.heap.size, 1, none⟩)), (16, 81, .int .i64 b), (17, 82, .pointer (some ⟨w.heap.size + 1, 1, none⟩)), (18, 83, .int .i64 d), (19, 84, .agg #[.int .i64 (wh v3), .int .u64 (wl v3)]), (20, 11, .pointer (some ⟨b0, 0, none⟩))] [(22, 13, .pointer (some ⟨b2, 0, none⟩)), (23, 14, .pointer (some ⟨b3, 0, none⟩))]
        refine wp_value (v := .pointer (some ⟨x.heap.size, 0, none⟩)) (w' := x.alloc (.cells #[.int .i64 0, .int .u64 0] 30)) ?_ ⟨(b0, x.heap.size, b2, b3), (show _ = putL (l.setIfInBounds 21 true) [(0, 65, .pointer (some ⟨w.heap.size, 0, none⟩)), (1, 66, .int .i64 a), (2, 67, .pointer (some ⟨w.heap.size + 1, 0, none⟩)), (3, 68, .int .i64 c), (4, 69, .agg #[.int .i64 (wh v0), .int .u64 (wl v0)]), (5, 70, .pointer (some ⟨w.heap.size, 0, none⟩)), (6, 71, .int .i64 a), (7, 72, .pointer (some ⟨w.heap.size + 1, 1, none⟩)), (8, 73, .int .i64 d), (9, 74, .agg #[.int .i64 (wh v1), .int .u64 (wl v1)]), (10, 75, .pointer (some ⟨w.heap.size, 1, none⟩)), (11, 76, .int .i64 b), (12, 77, .pointer (some ⟨w.heap.size + 1, 0, none⟩)), (13, 78, .int .i64 c), (14, 79, .agg #[.int .i64 (wh v2), .int .u64 (wl v2)]), (15, 80, .pointer (some ⟨w.heap.size, 1, none⟩)), (16, 81, .int .i64 b), (17, 82, .pointer (some ⟨w.heap.size + 1, 1, none⟩)), (18, 83, .int .i64 d), (19, 84, .agg #[.int .i64 (wh v3), .int .u64 (wl v3)]), (20, 11, .pointer (some ⟨b0, 0, none⟩)), (21, 12, .pointer (some ⟨x.heap.size, 0, none⟩)), (22, 13, .pointer (some ⟨b2, 0, none⟩)), (23, 14, .pointer (some ⟨b3, 0, none⟩))] _ by rw [← hV2, putL_set (by omega) hnn M1 M2 (by rw [hV2]; exact List.mem_of_getElem? (i := 21) rfl), hcg]), by simp [hl], hk.alloc _, ?_, ?_, ?_, ?_, ?_, ?_, ?_, ?_, ?_, ?_, ?_, ?_, ?_, ?_⟩
        · clear hV hV0 hV2
          simp only [execOp]
          first | (simp [go_sem]; done) | (simp [go_sem, *]; done)
        · intro q
          rw [g20] at q
          obtain ⟨q1, q2, q3⟩ := h20 q
          exact ⟨q1, fun z => OwnB.alloc (q2 (by rwa [g24] at z)) _, fun z => OwnB.alloc (q3 (by rwa [g24] at z)) _⟩
        · intro _
          refine ⟨hk.size, fun q => ?_, fun _ => own_alloc x [.int .i64 0, .int .u64 0] 30⟩
          rw [g25, hs25] at q; cases q
        · intro q
          rw [g22] at q
          obtain ⟨q1, q2, q3⟩ := h22 q
          exact ⟨q1, fun z => OwnB.alloc (q2 (by rwa [g26] at z)) _, fun z => OwnB.alloc (q3 (by rwa [g26] at z)) _⟩
        · intro q
          rw [g23] at q
          obtain ⟨q1, q2, q3⟩ := h23 q
          exact ⟨q1, fun z => OwnB.alloc (q2 (by rwa [g27] at z)) _, fun z => OwnB.alloc (q3 (by rwa [g27] at z)) _⟩
        · intro qa qb
          have qo : l.getD 20 false = true := by first | (rwa [g20] at qa) | (rwa [g20] at qb)
          obtain ⟨_, q2, q3⟩ := h20 qo
          have lt : b0 < x.heap.size := by
            cases hc : l.getD 24 false with
            | true => exact (q2 hc).1
            | false => exact (q3 hc).1
          (try simp only []); omega
        · simp only [g20, g22, g23, g24, g25, g26, g27]; assumption
        · intro qa qb
          have qo : l.getD 22 false = true := by first | (rwa [g22] at qa) | (rwa [g22] at qb)
          obtain ⟨_, q2, q3⟩ := h22 qo
          have lt : b2 < x.heap.size := by
            cases hc : l.getD 26 false with
            | true => exact (q2 hc).1
            | false => exact (q3 hc).1
          (try simp only []); omega
        · simp only [g20, g22, g23, g24, g25, g26, g27]; assumption
        · intro qa qb
          have qo : l.getD 23 false = true := by first | (rwa [g23] at qa) | (rwa [g23] at qb)
          obtain ⟨_, q2, q3⟩ := h23 qo
          have lt : b3 < x.heap.size := by
            cases hc : l.getD 27 false with
            | true => exact (q2 hc).1
            | false => exact (q3 hc).1
          (try simp only []); omega
        · simp only [g20, g22, g23, g24, g25, g26, g27]; assumption
        · simp only [g20, g22, g23, g24, g25, g26, g27]; assumption
        · intro _; exact gi
        · simp only [g20, g22, g23, g24, g25, g26, g27]; assumption
        · simp only [g20, g22, g23, g24, g25, g26, g27]; assumption
      · -- 22
        have g20 : (l.setIfInBounds 22 true).getD 20 false = l.getD 20 false := getD_set_ne false (by decide)
        have g21 : (l.setIfInBounds 22 true).getD 21 false = l.getD 21 false := getD_set_ne false (by decide)
        have g23 : (l.setIfInBounds 22 true).getD 23 false = l.getD 23 false := getD_set_ne false (by decide)
        have g24 : (l.setIfInBounds 22 true).getD 24 false = l.getD 24 false := getD_set_ne false (by decide)
        have g25 : (l.setIfInBounds 22 true).getD 25 false = l.getD 25 false := getD_set_ne false (by decide)
        have g26 : (l.setIfInBounds 22 true).getD 26 false = l.getD 26 false := getD_set_ne false (by decide)
        have g27 : (l.setIfInBounds 22 true).getD 27 false = l.getD 27 false := getD_set_ne false (by decide)
        change wpOp _ _ _ _ _ (putL l [(0, 65, .pointer (some ⟨w.heap.size, 0, none⟩)), (1, 66, .int .i64 a), (2, 67, .pointer (some ⟨w.heap.size + 1, 0, none⟩)), (3, 68, .int .i64 c), (4, 69, .agg #[.int .i64 (wh v0), .int .u64 (wl v0)]), (5, 70, .pointer (some ⟨w.heap.size, 0, none⟩)), (6, 71, .int .i64 a), (7, 72, .pointer (some ⟨w.heap.size + 1, 1, none⟩)), (8, 73, .int .i64 d), (9, 74, .agg #[.int .i64 (wh v1), .int .u64 (wl v1)]), (10, 75, .pointer (some ⟨w.heap.size, 1, none⟩)), (11, 76, .int .i64 b), (12, 77, .pointer (some ⟨w.heap.size + 1, 0, none⟩)), (13, 78, .int .i64 c), (14, 79, .agg #[.int .i64 (wh v2), .int .u64 (wl v2)]), (15, 80, .pointer (some ⟨w.heap.size, 1, none⟩)), (16, 81, .int .i64 b), (17, 82, .pointer (some ⟨w.heap.size + 1, 1, none⟩)), (18, 83, .int .i64 d), (19, 84, .agg #[.int .i64 (wh v3), .int .u64 (wl v3)]), (20, 11, .pointer (some ⟨b0, 0, none⟩)), (21, 12, .pointer (some ⟨b1, 0, none⟩)), (22, 13, .pointer (some ⟨b2, 0, none⟩)), (23, 14, .pointer (some ⟨b3, 0, none⟩))] _) _
        rw [← hV]
        refine wpOp_of (by simp only [List.getElem?_toArray, List.getElem?_cons_succ, List.getElem?_cons_zero]; rfl) rfl ?_
        have gi : (l.setIfInBounds 22 true).getD 22 false = true := by simp [show 22 < l.size by omega]
        have hs26 : l.getD 26 false = false := by
          cases hc : l.getD 26 false with
          | false => rfl
          | true => have := d22 hc; rw [hnn] at this; cases this
        obtain ⟨V2, hV2⟩ : ∃ V2 : List (Nat × Nat × Value), V2 = [(0, 65, .pointer (some ⟨w.heap.size, 0, none⟩)), (1, 66, .int .i64 a), (2, 67, .pointer (some ⟨w.heap.size + 1, 0, none⟩)), (3, 68, .int .i64 c), (4, 69, .agg #[.int .i64 (wh v0), .int .u64 (wl v0)]), (5, 70, .pointer (some ⟨w.heap.size, 0, none⟩)), (6, 71, .int .i64 a), (7, 72, .pointer (some ⟨w.heap.size + 1, 1, none⟩)), (8, 73, .int .i64 d), (9, 74, .agg #[.int .i64 (wh v1), .int .u64 (wl v1)]), (10, 75, .pointer (some ⟨w.heap.size, 1, none⟩)), (11, 76, .int .i64 b), (12, 77, .pointer (some ⟨w.heap.size + 1, 0, none⟩)), (13, 78, .int .i64 c), (14, 79, .agg #[.int .i64 (wh v2), .int .u64 (wl v2)]), (15, 80, .pointer (some ⟨w.heap.size, 1, none⟩)), (16, 81, .int .i64 b), (17, 82, .pointer (some ⟨w.heap.size + 1, 1, none⟩)), (18, 83, .int .i64 d), (19, 84, .agg #[.int .i64 (wh v3), .int .u64 (wl v3)]), (20, 11, .pointer (some ⟨b0, 0, none⟩)), (21, 12, .pointer (some ⟨b1, 0, none⟩)), (22, 13, .pointer (some ⟨x.heap.size, 0, none⟩)), (23, 14, .pointer (some ⟨b3, 0, none⟩))] := ⟨_, rfl⟩
        have M1 : (V2.map (·.1)).Nodup := by rw [hV2]; show ([0, 1, 2, 3, 4, 5, 6, 7, 8, 9, 10, 11, 12, 13, 14, 15, 16, 17, 18, 19, 20, 21, 22, 23] : List Nat).Nodup; decide
        have M2 : (V2.map (·.2.1)).Nodup := by rw [hV2]; show ([65, 66, 67, 68, 69, 70, 71, 72, 73, 74, 75, 76, 77, 78, 79, 80, 81, 82, 83, 84, 11, 12, 13, 14] : List Nat).Nodup; decide
        have hcg : ∀ A : Act, putL l V2 A = putL l V A := fun A => by rw [hV2, hV]; exact putL_mid hnn _ [(0, 65, .pointer (some ⟨w.heap.size, 0, none⟩)), (1, 66, .int .i64 a), (2, 67, .pointer (some ⟨w.heap.size + 1, 0, none⟩)), (3, 68, .int .i64 c), (4, 69, .agg #[.int .i64 (wh v0), .int .u64 (wl v0)]), (5, 70, .pointer (some ⟨w.heap.size, 0, none⟩)), (6, 71, .int .i64 a), (7, 72, .pointer (some ⟨w.heap.size + 1, 1, none⟩)), (8, 73, .int .i64 d), (9, 74, .agg #[.int .i64 (wh v1), .int .u64 (wl v1)]), (10, 75, .pointer (some ⟨w.heap.size, 1, none⟩)), (11, 76, .int .i64 b), (12, 77, .pointer (some ⟨w.heap.size + 1, 0, none⟩)), (13, 78, .int .i64 c), (14, 79, .agg #[.int .i64 (wh v2), .int .u64 (wl v2)]), (15, 80, .pointer (some ⟨w.heap.size, 1, none⟩)), (16, 81, .int .i64 b), (17, 82, .pointer (some ⟨w.heap.size + 1, 1, none⟩)), (18, 83, .int .i64 d), (19, 84, .agg #[.int .i64 (wh v3), .int .u64 (wl v3)]), (20, 11, .pointer (some ⟨b0, 0, none⟩)), (21, 12, .pointer (some ⟨b1, 0, none⟩))] [(23, 14, .pointer (some ⟨b3, 0, none⟩))]
        refine wp_value (v := .pointer (some ⟨x.heap.size, 0, none⟩)) (w' := x.alloc (.cells #[.int .i64 0, .int .u64 0] 30)) ?_ ⟨(b0, b1, x.heap.size, b3), (show _ = putL (l.setIfInBounds 22 true) [(0, 65, .pointer (some ⟨w.heap.size, 0, none⟩)), (1, 66, .int .i64 a), (2, 67, .pointer (some ⟨w.heap.size + 1, 0, none⟩)), (3, 68, .int .i64 c), (4, 69, .agg #[.int .i64 (wh v0), .int .u64 (wl v0)]), (5, 70, .pointer (some ⟨w.heap.size, 0, none⟩)), (6, 71, .int .i64 a), (7, 72, .pointer (some ⟨w.heap.size + 1, 1, none⟩)), (8, 73, .int .i64 d), (9, 74, .agg #[.int .i64 (wh v1), .int .u64 (wl v1)]), (10, 75, .pointer (some ⟨w.heap.size, 1, none⟩)), (11, 76, .int .i64 b), (12, 77, .pointer (some ⟨w.heap.size + 1, 0, none⟩)), (13, 78, .int .i64 c), (14, 79, .agg #[.int .i64 (wh v2), .int .u64 (wl v2)]), (15, 80, .pointer (some ⟨w.heap.size, 1, none⟩)), (16, 81, .int .i64 b), (17, 82, .pointer (some ⟨w.heap.size + 1, 1, none⟩)), (18, 83, .int .i64 d), (19, 84, .agg #[.int .i64 (wh v3), .int .u64 (wl v3)]), (20, 11, .pointer (some ⟨b0, 0, none⟩)), (21, 12, .pointer (some ⟨b1, 0, none⟩)), (22, 13, .pointer (some ⟨x.heap.size, 0, none⟩)), (23, 14, .pointer (some ⟨b3, 0, none⟩))] _ by rw [← hV2, putL_set (by omega) hnn M1 M2 (by rw [hV2]; exact List.mem_of_getElem? (i := 22) rfl), hcg]), by simp [hl], hk.alloc _, ?_, ?_, ?_, ?_, ?_, ?_, ?_, ?_, ?_, ?_, ?_, ?_, ?_, ?_⟩
        · clear hV hV0 hV2
          simp only [execOp]
          first | (simp [go_sem]; done) | (simp [go_sem, *]; done)
        · intro q
          rw [g20] at q
          obtain ⟨q1, q2, q3⟩ := h20 q
          exact ⟨q1, fun z => OwnB.alloc (q2 (by rwa [g24] at z)) _, fun z => OwnB.alloc (q3 (by rwa [g24] at z)) _⟩
        · intro q
          rw [g21] at q
          obtain ⟨q1, q2, q3⟩ := h21 q
          exact ⟨q1, fun z => OwnB.alloc (q2 (by rwa [g25] at z)) _, fun z => OwnB.alloc (q3 (by rwa [g25] at z)) _⟩
        · intro _
          refine ⟨hk.size, fun q => ?_, fun _ => own_alloc x [.int .i64 0, .int .u64 0] 30⟩
          rw [g26, hs26] at q; cases q
        · intro q
          rw [g23] at q
          obtain ⟨q1, q2, q3⟩ := h23 q
          exact ⟨q1, fun z => OwnB.alloc (q2 (by rwa [g27] at z)) _, fun z => OwnB.alloc (q3 (by rwa [g27] at z)) _⟩
        · simp only [g20, g21, g23, g24, g25, g26, g27]; assumption
        · intro qa qb
          have qo : l.getD 20 false = true := by first | (rwa [g20] at qa) | (rwa [g20] at qb)
          obtain ⟨_, q2, q3⟩ := h20 qo
          have lt : b0 < x.heap.size := by
            cases hc : l.getD 24 false with
            | true => exact (q2 hc).1
            | false => exact (q3 hc).1
          (try simp only []); omega
        · intro qa qb
          have qo : l.getD 21 false = true := by first | (rwa [g21] at qa) | (rwa [g21] at qb)
          obtain ⟨_, q2, q3⟩ := h21 qo
          have lt : b1 < x.heap.size := by
            cases hc : l.getD 25 false with
            | true => exact (q2 hc).1
            | false => exact (q3 hc).1
          (try simp only []); omega
        · simp only [g20, g21, g23, g24, g25, g26, g27]; assumption
        · simp only [g20, g21, g23, g24, g25, g26, g27]; assumption
        · intro qa qb
          have qo : l.getD 23 false = true := by first | (rwa [g23] at qa) | (rwa [g23] at qb)
          obtain ⟨_, q2, q3⟩ := h23 qo
          have lt : b3 < x.heap.size := by
            cases hc : l.getD 27 false with
            | true => exact (q2 hc).1
            | false => exact (q3 hc).1
          (try simp only []); omega
        · simp only [g20, g21, g23, g24, g25, g26, g27]; assumption
        · simp only [g20, g21, g23, g24, g25, g26, g27]; assumption
        · intro _; exact gi
        · simp only [g20, g21, g23, g24, g25, g26, g27]; assumption
      · -- 23
        have g20 : (l.setIfInBounds 23 true).getD 20 false = l.getD 20 false := getD_set_ne false (by decide)
        have g21 : (l.setIfInBounds 23 true).getD 21 false = l.getD 21 false := getD_set_ne false (by decide)
        have g22 : (l.setIfInBounds 23 true).getD 22 false = l.getD 22 false := getD_set_ne false (by decide)
        have g24 : (l.setIfInBounds 23 true).getD 24 false = l.getD 24 false := getD_set_ne false (by decide)
        have g25 : (l.setIfInBounds 23 true).getD 25 false = l.getD 25 false := getD_set_ne false (by decide)
        have g26 : (l.setIfInBounds 23 true).getD 26 false = l.getD 26 false := getD_set_ne false (by decide)
        have g27 : (l.setIfInBounds 23 true).getD 27 false = l.getD 27 false := getD_set_ne false (by decide)
        change wpOp _ _ _ _ _ (putL l [(0, 65, .pointer (some ⟨w.heap.size, 0, none⟩)), (1, 66, .int .i64 a), (2, 67, .pointer (some ⟨w.heap.size + 1, 0, none⟩)), (3, 68, .int .i64 c), (4, 69, .agg #[.int .i64 (wh v0), .int .u64 (wl v0)]), (5, 70, .pointer (some ⟨w.heap.size, 0, none⟩)), (6, 71, .int .i64 a), (7, 72, .pointer (some ⟨w.heap.size + 1, 1, none⟩)), (8, 73, .int .i64 d), (9, 74, .agg #[.int .i64 (wh v1), .int .u64 (wl v1)]), (10, 75, .pointer (some ⟨w.heap.size, 1, none⟩)), (11, 76, .int .i64 b), (12, 77, .pointer (some ⟨w.heap.size + 1, 0, none⟩)), (13, 78, .int .i64 c), (14, 79, .agg #[.int .i64 (wh v2), .int .u64 (wl v2)]), (15, 80, .pointer (some ⟨w.heap.size, 1, none⟩)), (16, 81, .int .i64 b), (17, 82, .pointer (some ⟨w.heap.size + 1, 1, none⟩)), (18, 83, .int .i64 d), (19, 84, .agg #[.int .i64 (wh v3), .int .u64 (wl v3)]), (20, 11, .pointer (some ⟨b0, 0, none⟩)), (21, 12, .pointer (some ⟨b1, 0, none⟩)), (22, 13, .pointer (some ⟨b2, 0, none⟩)), (23, 14, .pointer (some ⟨b3, 0, none⟩))] _) _
        rw [← hV]
        refine wpOp_of (by simp only [List.getElem?_toArray, List.getElem?_cons_succ, List.getElem?_cons_zero]; rfl) rfl ?_
        have gi : (l.setIfInBounds 23 true).getD 23 false = true := by simp [show 23 < l.size by omega]
        have hs27 : l.getD 27 false = false := by
          cases hc : l.getD 27 false with
          | false => rfl
          | true => have := d23 hc; rw [hnn] at this; cases this
        obtain ⟨V2, hV2⟩ : ∃ V2 : List (Nat × Nat × Value), V2 = [(0, 65, .pointer (some ⟨w.heap.size, 0, none⟩)), (1, 66, .int .i64 a), (2, 67, .pointer (some ⟨w.heap.size + 1, 0, none⟩)), (3, 68, .int .i64 c), (4, 69, .agg #[.int .i64 (wh v0), .int .u64 (wl v0)]), (5, 70, .pointer (some ⟨w.heap.size, 0, none⟩)), (6, 71, .int .i64 a), (7, 72, .pointer (some ⟨w.heap.size + 1, 1, none⟩)), (8, 73, .int .i64 d), (9, 74, .agg #[.int .i64 (wh v1), .int .u64 (wl v1)]), (10, 75, .pointer (some ⟨w.heap.size, 1, none⟩)), (11, 76, .int .i64 b), (12, 77, .pointer (some ⟨w.heap.size + 1, 0, none⟩)), (13, 78, .int .i64 c), (14, 79, .agg #[.int .i64 (wh v2), .int .u64 (wl v2)]), (15, 80, .pointer (some ⟨w.heap.size, 1, none⟩)), (16, 81, .int .i64 b), (17, 82, .pointer (some ⟨w.heap.size + 1, 1, none⟩)), (18, 83, .int .i64 d), (19, 84, .agg #[.int .i64 (wh v3), .int .u64 (wl v3)]), (20, 11, .pointer (some ⟨b0, 0, none⟩)), (21, 12, .pointer (some ⟨b1, 0, none⟩)), (22, 13, .pointer (some ⟨b2, 0, none⟩)), (23, 14, .pointer (some ⟨x.heap.size, 0, none⟩))] := ⟨_, rfl⟩
        have M1 : (V2.map (·.1)).Nodup := by rw [hV2]; show ([0, 1, 2, 3, 4, 5, 6, 7, 8, 9, 10, 11, 12, 13, 14, 15, 16, 17, 18, 19, 20, 21, 22, 23] : List Nat).Nodup; decide
        have M2 : (V2.map (·.2.1)).Nodup := by rw [hV2]; show ([65, 66, 67, 68, 69, 70, 71, 72, 73, 74, 75, 76, 77, 78, 79, 80, 81, 82, 83, 84, 11, 12, 13, 14] : List Nat).Nodup; decide
        have hcg : ∀ A : Act, putL l V2 A = putL l V A := fun A => by rw [hV2, hV]; exact putL_mid hnn _ [(0, 65, .pointer (some ⟨w.heap.size, 0, none⟩)), (1, 66, .int .i64 a), (2, 67, .pointer (some ⟨w.heap.size + 1, 0, none⟩)), (3, 68, .int .i64 c), (4, 69, .agg #[.int .i64 (wh v0), .int .u64 (wl v0)]), (5, 70, .pointer (some ⟨w.heap.size, 0, none⟩)), (6, 71, .int .i64 a), (7, 72, .pointer (some ⟨w.heap.size + 1, 1, none⟩)), (8, 73, .int .i64 d), (9, 74, .agg #[.int .i64 (wh v1), .int .u64 (wl v1)]), (10, 75, .pointer (some ⟨w.heap.size, 1, none⟩)), (11, 76, .int .i64 b), (12, 77, .pointer (some ⟨w.heap.size + 1, 0, none⟩)), (13, 78, .int .i64 c), (14, 79, .agg #[.int .i64 (wh v2), .int .u64 (wl v2)]), (15, 80, .pointer (some ⟨w.heap.size, 1, none⟩)), (16, 81, .int .i64 b), (17, 82, .pointer (some ⟨w.heap.size + 1, 1, none⟩)), (18, 83, .int .i64 d), (19, 84, .agg #[.int .i64 (wh v3), .int .u64 (wl v3)]), (20, 11, .pointer (some ⟨b0, 0, none⟩)), (21, 12, .pointer (some ⟨b1, 0, none⟩)), (22, 13, .pointer (some ⟨b2, 0, none⟩))] []
        refine wp_value (v := .pointer (some ⟨x.heap.size, 0, none⟩)) (w' := x.alloc (.cells #[.int .i64 0, .int .u64 0] 30)) ?_ ⟨(b0, b1, b2, x.heap.size), (show _ = putL (l.setIfInBounds 23 true) [(0, 65, .pointer (some ⟨w.heap.size, 0, none⟩)), (1, 66, .int .i64 a), (2, 67, .pointer (some ⟨w.heap.size + 1, 0, none⟩)), (3, 68, .int .i64 c), (4, 69, .agg #[.int .i64 (wh v0), .int .u64 (wl v0)]), (5, 70, .pointer (some ⟨w.heap.size, 0, none⟩)), (6, 71, .int .i64 a), (7, 72, .pointer (some ⟨w.heap.size + 1, 1, none⟩)), (8, 73, .int .i64 d), (9, 74, .agg #[.int .i64 (wh v1), .int .u64 (wl v1)]), (10, 75, .pointer (some ⟨w.heap.size, 1, none⟩)), (11, 76, .int .i64 b), (12, 77, .pointer (some ⟨w.heap.size + 1, 0, none⟩)), (13, 78, .int .i64 c), (14, 79, .agg #[.int .i64 (wh v2), .int .u64 (wl v2)]), (15, 80, .pointer (some ⟨w.heap.size, 1, none⟩)), (16, 81, .int .i64 b), (17, 82, .pointer (some ⟨w.heap.size + 1, 1, none⟩)), (18, 83, .int .i64 d), (19, 84, .agg #[.int .i64 (wh v3), .int .u64 (wl v3)]), (20, 11, .pointer (some ⟨b0, 0, none⟩)), (21, 12, .pointer (some ⟨b1, 0, none⟩)), (22, 13, .pointer (some ⟨b2, 0, none⟩)), (23, 14, .pointer (some ⟨x.heap.size, 0, none⟩))] _ by rw [← hV2, putL_set (by omega) hnn M1 M2 (by rw [hV2]; exact List.mem_of_getElem? (i := 23) rfl), hcg]), by simp [hl], hk.alloc _, ?_, ?_, ?_, ?_, ?_, ?_, ?_, ?_, ?_, ?_, ?_, ?_, ?_, ?_⟩
        · clear hV hV0 hV2
          simp only [execOp]
          first | (simp [go_sem]; done) | (simp [go_sem, *]; done)
        · intro q
          rw [g20] at q
          obtain ⟨q1, q2, q3⟩ := h20 q
          exact ⟨q1, fun z => OwnB.alloc (q2 (by rwa [g24] at z)) _, fun z => OwnB.alloc (q3 (by rwa [g24] at z)) _⟩
        · intro q
          rw [g21] at q
          obtain ⟨q1, q2, q3⟩ := h21 q
          exact ⟨q1, fun z => OwnB.alloc (q2 (by rwa [g25] at z)) _, fun z => OwnB.alloc (q3 (by rwa [g25] at z)) _⟩
        · intro q
          rw [g22] at q
          obtain ⟨q1, q2, q3⟩ := h22 q
          exact ⟨q1, fun z => OwnB.alloc (q2 (by rwa [g26] at z)) _, fun z => OwnB.alloc (q3 (by rwa [g26] at z)) _⟩
        · intro _
          refine ⟨hk.size, fun q => ?_, fun _ => own_alloc x [.int .i64 0, .int .u64 0] 30⟩
          rw [g27, hs27] at q; cases q
        · simp only [g20, g21, g22, g24, g25, g26, g27]; assumption
        · simp only [g20, g21, g22, g24, g25, g26, g27]; assumption
        · simp only [g20, g21, g22, g24, g25, g26, g27]; assumption
        · intro qa qb
          have qo : l.getD 20 false = true := by first | (rwa [g20] at qa) | (rwa [g20] at qb)
          obtain ⟨_, q2, q3⟩ := h20 qo
          have lt : b0 < x.heap.size := by
            cases hc : l.getD 24 false with
            | true => exact (q2 hc).1
            | false => exact (q3 hc).1
          (try simp only []); omega
        · intro qa qb
          have qo : l.getD 21 false = true := by first | (rwa [g21] at qa) | (rwa [g21] at qb)
          obtain ⟨_, q2, q3⟩ := h21 qo
          have lt : b1 < x.heap.size := by
            cases hc : l.getD 25 false with
            | true => exact (q2 hc).1
            | false => exact (q3 hc).1
          (try simp only []); omega
        · intro qa qb
          have qo : l.getD 22 false = true := by first | (rwa [g22] at qa) | (rwa [g22] at qb)
          obtain ⟨_, q2, q3⟩ := h22 qo
          have lt : b2 < x.heap.size := by
            cases hc : l.getD 26 false with
            | true => exact (q2 hc).1
            | false => exact (q3 hc).1
          (try simp only []); omega
        · simp only [g20, g21, g22, g24, g25, g26, g27]; assumption
        · simp only [g20, g21, g22, g24, g25, g26, g27]; assumption
        · simp only [g20, g21, g22, g24, g25, g26, g27]; assumption
        · intro _; exact gi
      · -- 24
        have ev11 : ∀ (A : Act), 11 < A.tmps.size → (putL l V A).eval (.tmp 11) = (.pointer (some ⟨b0, 0, none⟩)) := fun A h => putL_eval (i := 20) (ready_on hi (by kernel_rfl)) N2 (by rw [hV]; exact List.mem_of_getElem? (i := 20) rfl) h
        have ev69 : ∀ (A : Act), 69 < A.tmps.size → (putL l V A).eval (.tmp 69) = (.agg #[.int .i64 (wh v0), .int .u64 (wl v0)]) := fun A h => putL_eval (i := 4) (ready_on hi (by kernel_rfl)) N2 (by rw [hV]; exact List.mem_of_getElem? (i := 4) rfl) h
        have g20 : (l.setIfInBounds 24 true).getD 20 false = l.getD 20 false := getD_set_ne false (by decide)
        have g21 : (l.setIfInBounds 24 true).getD 21 false = l.getD 21 false := getD_set_ne false (by decide)
        have g22 : (l.setIfInBounds 24 true).getD 22 false = l.getD 22 false := getD_set_ne false (by decide)
        have g23 : (l.setIfInBounds 24 true).getD 23 false = l.getD 23 false := getD_set_ne false (by decide)
        have g25 : (l.setIfInBounds 24 true).getD 25 false = l.getD 25 false := getD_set_ne false (by decide)
        have g26 : (l.setIfInBounds 24 true).getD 26 false = l.getD 26 false := getD_set_ne false (by decide)
        have g27 : (l.setIfInBounds 24 true).getD 27 false = l.getD 27 false := getD_set_ne false (by decide)
        change wpOp _ _ _ _ _ (putL l [(0, 65, .pointer (some ⟨w.heap.size, 0, none⟩)), (1, 66, .int .i64 a), (2, 67, .pointer (some ⟨w.heap.size + 1, 0, none⟩)), (3, 68, .int .i64 c), (4, 69, .agg #[.int .i64 (wh v0), .int .u64 (wl v0)]), (5, 70, .pointer (some ⟨w.heap.size, 0, none⟩)), (6, 71, .int .i64 a), (7, 72, .pointer (some ⟨w.heap.size + 1, 1, none⟩)), (8, 73, .int .i64 d), (9, 74, .agg #[.int .i64 (wh v1), .int .u64 (wl v1)]), (10, 75, .pointer (some ⟨w.heap.size, 1, none⟩)), (11, 76, .int .i64 b), (12, 77, .pointer (some ⟨w.heap.size + 1, 0, none⟩)), (13, 78, .int .i64 c), (14, 79, .agg #[.int .i64 (wh v2), .int .u64 (wl v2)]), (15, 80, .pointer (some ⟨w.heap.size, 1, none⟩)), (16, 81, .int .i64 b), (17, 82, .pointer (some ⟨w.heap.size + 1, 1, none⟩)), (18, 83, .int .i64 d), (19, 84, .agg #[.int .i64 (wh v3), .int .u64 (wl v3)]), (20, 11, .pointer (some ⟨b0, 0, none⟩)), (21, 12, .pointer (some ⟨b1, 0, none⟩)), (22, 13, .pointer (some ⟨b2, 0, none⟩)), (23, 14, .pointer (some ⟨b3, 0, none⟩))] _) _
        rw [← hV]
        refine wpOp_of (by simp only [List.getElem?_toArray, List.getElem?_cons_succ, List.getElem?_cons_zero]; rfl) rfl ?_
        have gi : (l.setIfInBounds 24 true).getD 24 false = true := by simp [show 24 < l.size by omega]
        have hAL : l.getD 20 false = true := ready_on hi (by kernel_rfl)
        obtain ⟨q1, q2, q3⟩ := h20 hAL
        have OZ := q3 hnn
        refine wp_skip0 (w' := (x.setCell ⟨b0, 0, none⟩ (.int .i64 (wh v0))).setCell ⟨b0, 1, none⟩ (.int .u64 (wl v0))) rfl ?_ ⟨(b0, b1, b2, b3), ((putL_out (l := l) (i := 24) (vs := V) (by rw [hV]; show 24 ∉ ([0, 1, 2, 3, 4, 5, 6, 7, 8, 9, 10, 11, 12, 13, 14, 15, 16, 17, 18, 19, 20, 21, 22, 23] : List Nat); decide)).symm.trans (by rw [hV0])), by simp [hl], (by repeat (first | with_reducible exact hk | with_reducible refine Kept.setCell ?_ q1 _)), ?_, ?_, ?_, ?_, ?_, ?_, ?_, ?_, ?_, ?_, ?_, ?_, ?_, ?_⟩
        · clear hV hV0
          simp only [execOp, Go.resolve, List.map_toArray, List.map_cons, List.map_nil]
          rw [ev11 _ (by first | rfl | decide | (simp; done))]
          rw [ev69 _ (by first | rfl | decide | (simp; done))]
          obtain ⟨oz, og, oc0, oc1, _⟩ := OZ
          first | (simp [go_sem, og, oc0, oc1]; done) | (simp [go_sem, *]; done)
        · intro _
          refine ⟨q1, fun _ => own_set2 (us := [.int .i64 0, .int .u64 0]) OZ rfl, fun z => ?_⟩
          rw [gi] at z; cases z
        · intro q
          rw [g21] at q
          obtain ⟨t1, t2, t3⟩ := h21 q
          have hne : b1 ≠ b0 := by
            first | exact e20_21 hAL q | exact (e20_21 q hAL) | exact (e20_21 hAL q).symm | exact (e20_21 q hAL).symm
          exact ⟨t1, fun z => OwnB.setOther (OwnB.setOther (t2 (by rwa [g25] at z)) hne) hne, fun z => OwnB.setOther (OwnB.setOther (t3 (by rwa [g25] at z)) hne) hne⟩
        · intro q
          rw [g22] at q
          obtain ⟨t1, t2, t3⟩ := h22 q
          have hne : b2 ≠ b0 := by
            first | exact e20_22 hAL q | exact (e20_22 q hAL) | exact (e20_22 hAL q).symm | exact (e20_22 q hAL).symm
          exact ⟨t1, fun z => OwnB.setOther (OwnB.setOther (t2 (by rwa [g26] at z)) hne) hne, fun z => OwnB.setOther (OwnB.setOther (t3 (by rwa [g26] at z)) hne) hne⟩
        · intro q
          rw [g23] at q
          obtain ⟨t1, t2, t3⟩ := h23 q
          have hne : b3 ≠ b0 := by
            first | exact e20_23 hAL q | exact (e20_23 q hAL) | exact (e20_23 hAL q).symm | exact (e20_23 q hAL).symm
          exact ⟨t1, fun z => OwnB.setOther (OwnB.setOther (t2 (by rwa [g27] at z)) hne) hne, fun z => OwnB.setOther (OwnB.setOther (t3 (by rwa [g27] at z)) hne) hne⟩
        · simp only [g20, g21, g22, g23, g25, g26, g27]; assumption
        · simp only [g20, g21, g22, g23, g25, g26, g27]; assumption
        · simp only [g20, g21, g22, g23, g25, g26, g27]; assumption
        · simp only [g20, g21, g22, g23, g25, g26, g27]; assumption
        · simp only [g20, g21, g22, g23, g25, g26, g27]; assumption
        · simp only [g20, g21, g22, g23, g25, g26, g27]; assumption
        · intro _; rw [g20]; exact hAL
        · simp only [g20, g21, g22, g23, g25, g26, g27]; assumption
        · simp only [g20, g21, g22, g23, g25, g26, g27]; assumption
        · simp only [g20, g21, g22, g23, g25, g26, g27]; assumption
      · -- 25
        have ev12 : ∀ (A : Act), 12 < A.tmps.size → (putL l V A).eval (.tmp 12) = (.pointer (some ⟨b1, 0, none⟩)) := fun A h => putL_eval (i := 21) (ready_on hi (by kernel_rfl)) N2 (by rw [hV]; exact List.mem_of_getElem? (i := 21) rfl) h
        have ev74 : ∀ (A : Act), 74 < A.tmps.size → (putL l V A).eval (.tmp 74) = (.agg #[.int .i64 (wh v1), .int .u64 (wl v1)]) := fun A h => putL_eval (i := 9) (ready_on hi (by kernel_rfl)) N2 (by rw [hV]; exact List.mem_of_getElem? (i := 9) rfl) h
        have g20 : (l.setIfInBounds 25 true).getD 20 false = l.getD 20 false := getD_set_ne false (by decide)
        have g21 : (l.setIfInBounds 25 true).getD 21 false = l.getD 21 false := getD_set_ne false (by decide)
        have g22 : (l.setIfInBounds 25 true).getD 22 false = l.getD 22 false := getD_set_ne false (by decide)
        have g23 : (l.setIfInBounds 25 true).getD 23 false = l.getD 23 false := getD_set_ne false (by decide)
        have g24 : (l.setIfInBounds 25 true).getD 24 false = l.getD 24 false := getD_set_ne false (by decide)
        have g26 : (l.setIfInBounds 25 true).getD 26 false = l.getD 26 false := getD_set_ne false (by decide)
        have g27 : (l.setIfInBounds 25 true).getD 27 false = l.getD 27 false := getD_set_ne false (by decide)
        change wpOp _ _ _ _ _ (putL l [(0, 65, .pointer (some ⟨w.heap.size, 0, none⟩)), (1, 66, .int .i64 a), (2, 67, .pointer (some ⟨w.heap.size + 1, 0, none⟩)), (3, 68, .int .i64 c), (4, 69, .agg #[.int .i64 (wh v0), .int .u64 (wl v0)]), (5, 70, .pointer (some ⟨w.heap.size, 0, none⟩)), (6, 71, .int .i64 a), (7, 72, .pointer (some ⟨w.heap.size + 1, 1, none⟩)), (8, 73, .int .i64 d), (9, 74, .agg #[.int .i64 (wh v1), .int .u64 (wl v1)]), (10, 75, .pointer (some ⟨w.heap.size, 1, none⟩)), (11, 76, .int .i64 b), (12, 77, .pointer (some ⟨w.heap.size + 1, 0, none⟩)), (13, 78, .int .i64 c), (14, 79, .agg #[.int .i64 (wh v2), .int .u64 (wl v2)]), (15, 80, .pointer (some ⟨w.heap.size, 1, none⟩)), (16, 81, .int .i64 b), (17, 82, .pointer (some ⟨w.heap.size + 1, 1, none⟩)), (18, 83, .int .i64 d), (19, 84, .agg #[.int .i64 (wh v3), .int .u64 (wl v3)]), (20, 11, .pointer (some ⟨b0, 0, none⟩)), (21, 12, .pointer (some ⟨b1, 0, none⟩)), (22, 13, .pointer (some ⟨b2, 0, none⟩)), (23, 14, .pointer (some ⟨b3, 0, none⟩))] _) _
        rw [← hV]
        refine wpOp_of (by simp only [List.getElem?_toArray, List.getElem?_cons_succ, List.getElem?_cons_zero]; rfl) rfl ?_
        have gi : (l.setIfInBounds 25 true).getD 25 false = true := by simp [show 25 < l.size by omega]
        have hAL : l.getD 21 false = true := ready_on hi (by kernel_rfl)
        obtain ⟨q1, q2, q3⟩ := h21 hAL
        have OZ := q3 hnn
        refine wp_skip0 (w' := (x.setCell ⟨b1, 0, none⟩ (.int .i64 (wh v1))).setCell ⟨b1, 1, none⟩ (.int .u64 (wl v1))) rfl ?_ ⟨(b0, b1, b2, b3), ((putL_out (l := l) (i := 25) (vs := V) (by rw [hV]; show 25 ∉ ([0, 1, 2, 3, 4, 5, 6, 7, 8, 9, 10, 11, 12, 13, 14, 15, 16, 17, 18, 19, 20, 21, 22, 23] : List Nat); decide)).symm.trans (by rw [hV0])), by simp [hl], (by repeat (first | with_reducible exact hk | with_reducible refine Kept.setCell ?_ q1 _)), ?_, ?_, ?_, ?_, ?_, ?_, ?_, ?_, ?_, ?_, ?_, ?_, ?_, ?_⟩
        · clear hV hV0
          simp only [execOp, Go.resolve, List.map_toArray, List.map_cons, List.map_nil]
          rw [ev12 _ (by first | rfl | decide | (simp; done))]
          rw [ev74 _ (by first | rfl | decide | (simp; done))]
          obtain ⟨oz, og, oc0, oc1, _⟩ := OZ
          first | (simp [go_sem, og, oc0, oc1]; done) | (simp [go_sem, *]; done)
        · intro q
          rw [g20] at q
          obtain ⟨t1, t2, t3⟩ := h20 q
          have hne : b0 ≠ b1 := by
            first | exact e20_21 hAL q | exact (e20_21 q hAL) | exact (e20_21 hAL q).symm | exact (e20_21 q hAL).symm
          exact ⟨t1, fun z => OwnB.setOther (OwnB.setOther (t2 (by rwa [g24] at z)) hne) hne, fun z => OwnB.setOther (OwnB.setOther (t3 (by rwa [g24] at z)) hne) hne⟩
        · intro _
          refine ⟨q1, fun _ => own_set2 (us := [.int .i64 0, .int .u64 0]) OZ rfl, fun z => ?_⟩
          rw [gi] at z; cases z
        · intro q
          rw [g22] at q
          obtain ⟨t1, t2, t3⟩ := h22 q
          have hne : b2 ≠ b1 := by
            first | exact e21_22 hAL q | exact (e21_22 q hAL) | exact (e21_22 hAL q).symm | exact (e21_22 q hAL).symm
          exact ⟨t1, fun z => OwnB.setOther (OwnB.setOther (t2 (by rwa [g26] at z)) hne) hne, fun z => OwnB.setOther (OwnB.setOther (t3 (by rwa [g26] at z)) hne) hne⟩
        · intro q
          rw [g23] at q
          obtain ⟨t1, t2, t3⟩ := h23 q
          have hne : b3 ≠ b1 := by
            first | exact e21_23 hAL q | exact (e21_23 q hAL) | exact (e21_23 hAL q).symm | exact (e21_23 q hAL).symm
          exact ⟨t1, fun z => OwnB.setOther (OwnB.setOther (t2 (by rwa [g27] at z)) hne) hne, fun z => OwnB.setOther (OwnB.setOther (t3 (by rwa [g27] at z)) hne) hne⟩
        · simp only [g20, g21, g22, g23, g24, g26, g27]; assumption
        · simp only [g20, g21, g22, g23, g24, g26, g27]; assumption
        · simp only [g20, g21, g22, g23, g24, g26, g27]; assumption
        · simp only [g20, g21, g22, g23, g24, g26, g27]; assumption
        · simp only [g20, g21, g22, g23, g24, g26, g27]; assumption
        · simp only [g20, g21, g22, g23, g24, g26, g27]; assumption
        · simp only [g20, g21, g22, g23, g24, g26, g27]; assumption
        · intro _; rw [g21]; exact hAL
        · simp only [g20, g21, g22, g23, g24, g26, g27]; assumption
        · simp only [g20, g21, g22, g23, g24, g26, g27]; assumption
      · -- 26
        have ev13 : ∀ (A : Act), 13 < A.tmps.size → (putL l V A).eval (.tmp 13) = (.pointer (some ⟨b2, 0, none⟩)) := fun A h => putL_eval (i := 22) (ready_on hi (by kernel_rfl)) N2 (by rw [hV]; exact List.mem_of_getElem? (i := 22) rfl) h
        have ev79 : ∀ (A : Act), 79 < A.tmps.size → (putL l V A).eval (.tmp 79) = (.agg #[.int .i64 (wh v2), .int .u64 (wl v2)]) := fun A h => putL_eval (i := 14) (ready_on hi (by kernel_rfl)) N2 (by rw [hV]; exact List.mem_of_getElem? (i := 14) rfl) h
        have g20 : (l.setIfInBounds 26 true).getD 20 false = l.getD 20 false := getD_set_ne false (by decide)
        have g21 : (l.setIfInBounds 26 true).getD 21 false = l.getD 21 false := getD_set_ne false (by decide)
        have g22 : (l.setIfInBounds 26 true).getD 22 false = l.getD 22 false := getD_set_ne false (by decide)
        have g23 : (l.setIfInBounds 26 true).getD 23 false = l.getD 23 false := getD_set_ne false (by decide)
        have g24 : (l.setIfInBounds 26 true).getD 24 false = l.getD 24 false := getD_set_ne false (by decide)
        have g25 : (l.setIfInBounds 26 true).getD 25 false = l.getD 25 false := getD_set_ne false (by decide)
        have g27 : (l.setIfInBounds 26 true).getD 27 false = l.getD 27 false := getD_set_ne false (by decide)
        change wpOp _ _ _ _ _ (putL l [(0, 65, .pointer (some ⟨w.heap.size, 0, none⟩)), (1, 66, .int .i64 a), (2, 67, .pointer (some ⟨w.heap.size + 1, 0, none⟩)), (3, 68, .int .i64 c), (4, 69, .agg #[.int .i64 (wh v0), .int .u64 (wl v0)]), (5, 70, .pointer (some ⟨w.heap.size, 0, none⟩)), (6, 71, .int .i64 a), (7, 72, .pointer (some ⟨w.heap.size + 1, 1, none⟩)), (8, 73, .int .i64 d), (9, 74, .agg #[.int .i64 (wh v1), .int .u64 (wl v1)]), (10, 75, .pointer (some ⟨w.heap.size, 1, none⟩)), (11, 76, .int .i64 b), (12, 77, .pointer (some ⟨w.heap.size + 1, 0, none⟩)), (13, 78, .int .i64 c), (14, 79, .agg #[.int .i64 (wh v2), .int .u64 (wl v2)]), (15, 80, .pointer (some ⟨w.heap.size, 1, none⟩)), (16, 81, .int .i64 b), (17, 82, .pointer (some ⟨w.heap.size + 1, 1, none⟩)), (18, 83, .int .i64 d), (19, 84, .agg #[.int .i64 (wh v3), .int .u64 (wl v3)]), (20, 11, .pointer (some ⟨b0, 0, none⟩)), (21, 12, .pointer (some ⟨b1, 0, none⟩)), (22, 13, .pointer (some ⟨b2, 0, none⟩)), (23, 14, .pointer (some ⟨b3, 0, none⟩))] _) _
        rw [← hV]
        refine wpOp_of (by simp only [List.getElem?_toArray, List.getElem?_cons_succ, List.getElem?_cons_zero]; rfl) rfl ?_
        have gi : (l.setIfInBounds 26 true).getD 26 false = true := by simp [show 26 < l.size by omega]
        have hAL : l.getD 22 false = true := ready_on hi (by kernel_rfl)
        obtain ⟨q1, q2, q3⟩ := h22 hAL
        have OZ := q3 hnn
        refine wp_skip0 (w' := (x.setCell ⟨b2, 0, none⟩ (.int .i64 (wh v2))).setCell ⟨b2, 1, none⟩ (.int .u64 (wl v2))) rfl ?_ ⟨(b0, b1, b2, b3), ((putL_out (l := l) (i := 26) (vs := V) (by rw [hV]; show 26 ∉ ([0, 1, 2, 3, 4, 5, 6, 7, 8, 9, 10, 11, 12, 13, 14, 15, 16, 17, 18, 19, 20, 21, 22, 23] : List Nat); decide)).symm.trans (by rw [hV0])), by simp [hl], (by repeat (first | with_reducible exact hk | with_reducible refine Kept.setCell ?_ q1 _)), ?_, ?_, ?_, ?_, ?_, ?_, ?_, ?_, ?_, ?_, ?_, ?_, ?_, ?_⟩
        · clear hV hV0
          simp only [execOp, Go.resolve, List.map_toArray, List.map_cons, List.map_nil]
          rw [ev13 _ (by first | rfl | decide | (simp; done))]
          rw [ev79 _ (by first | rfl | decide | (simp; done))]
          obtain ⟨oz, og, oc0, oc1, _⟩ := OZ
          first | (simp [go_sem, og, oc0, oc1]; done) | (simp [go_sem, *]; done)
        · intro q
          rw [g20] at q
          obtain ⟨t1, t2, t3⟩ := h20 q
          have hne : b0 ≠ b2 := by
            first | exact e20_22 hAL q | exact (e20_22 q hAL) | exact (e20_22 hAL q).symm | exact (e20_22 q hAL).symm
          exact ⟨t1, fun z => OwnB.setOther (OwnB.setOther (t2 (by rwa [g24] at z)) hne) hne, fun z => OwnB.setOther (OwnB.setOther (t3 (by rwa [g24] at z)) hne) hne⟩
        · intro q
          rw [g21] at q
          obtain ⟨t1, t2, t3⟩ := h21 q
          have hne : b1 ≠ b2 := by
            first | exact e21_22 hAL q | exact (e21_22 q hAL) | exact (e21_22 hAL q).symm | exact (e21_22 q hAL).symm
          exact ⟨t1, fun z => OwnB.setOther (OwnB.setOther (t2 (by rwa [g25] at z)) hne) hne, fun z => OwnB.setOther (OwnB.setOther (t3 (by rwa [g25] at z)) hne) hne⟩
        · intro _
          refine ⟨q1, fun _ => own_set2 (us := [.int .i64 0, .int .u64 0]) OZ rfl, fun z => ?_⟩
          rw [gi] at z; cases z
        · intro q
          rw [g23] at q
          obtain ⟨t1, t2, t3⟩ := h23 q
          have hne : b3 ≠ b2 := by
            first | exact e22_23 hAL q | exact (e22_23 q hAL) | exact (e22_23 hAL q).symm | exact (e22_23 q hAL).symm
          exact ⟨t1, fun z => OwnB.setOther (OwnB.setOther (t2 (by rwa [g27] at z)) hne) hne, fun z => OwnB.setOther (OwnB.setOther (t3 (by rwa [g27] at z)) hne) hne⟩
        · simp only [g20, g21, g22, g23, g24, g25, g27]; assumption
        · simp only [g20, g21, g22, g23, g24, g25, g27]; assumption
        · simp only [g20, g21, g22, g23, g24, g25, g27]; assumption
        · simp only [g20, g21, g22, g23, g24, g25, g27]; assumption
        · simp only [g20, g21, g22, g23, g24, g25, g27]; assumption
        · simp only [g20, g21, g22, g23, g24, g25, g27]; assumption
        · simp only [g20, g21, g22, g23, g24, g25, g27]; assumption
        · simp only [g20, g21, g22, g23, g24, g25, g27]; assumption
        · intro _; rw [g22]; exact hAL
        · simp only [g20, g21, g22, g23, g24, g25, g27]; assumption
      · -- 27
        have ev14 : ∀ (A : Act), 14 < A.tmps.size → (putL l V A).eval (.tmp 14) = (.pointer (some ⟨b3, 0, none⟩)) := fun A h => putL_eval (i := 23) (ready_on hi (by kernel_rfl)) N2 (by rw [hV]; exact List.mem_of_getElem? (i := 23) rfl) h
        have ev84 : ∀ (A : Act), 84 < A.tmps.size → (putL l V A).eval (.tmp 84) = (.agg #[.int .i64 (wh v3), .int .u64 (wl v3)]) := fun A h => putL_eval (i := 19) (ready_on hi (by kernel_rfl)) N2 (by rw [hV]; exact List.mem_of_getElem? (i := 19) rfl) h
        have g20 : (l.setIfInBounds 27 true).getD 20 false = l.getD 20 false := getD_set_ne false (by decide)
        have g21 : (l.setIfInBounds 27 true).getD 21 false = l.getD 21 false := getD_set_ne false (by decide)
        have g22 : (l.setIfInBounds 27 true).getD 22 false = l.getD 22 false := getD_set_ne false (by decide)
        have g23 : (l.setIfInBounds 27 true).getD 23 false = l.getD 23 false := getD_set_ne false (by decide)
        have g24 : (l.setIfInBounds 27 true).getD 24 false = l.getD 24 false := getD_set_ne false (by decide)
        have g25 : (l.setIfInBounds 27 true).getD 25 false = l.getD 25 false := getD_set_ne false (by decide)
        have g26 : (l.setIfInBounds 27 true).getD 26 false = l.getD 26 false := getD_set_ne false (by decide)
        change wpOp _ _ _ _ _ (putL l [(0, 65, .pointer (some ⟨w.heap.size, 0, none⟩)), (1, 66, .int .i64 a), (2, 67, .pointer (some ⟨w.heap.size + 1, 0, none⟩)), (3, 68, .int .i64 c), (4, 69, .agg #[.int .i64 (wh v0), .int .u64 (wl v0)]), (5, 70, .pointer (some ⟨w.heap.size, 0, none⟩)), (6, 71, .int .i64 a), (7, 72, .pointer (some ⟨w.heap.size + 1, 1, none⟩)), (8, 73, .int .i64 d), (9, 74, .agg #[.int .i64 (wh v1), .int .u64 (wl v1)]), (10, 75, .pointer (some ⟨w.heap.size, 1, none⟩)), (11, 76, .int .i64 b), (12, 77, .pointer (some ⟨w.heap.size + 1, 0, none⟩)), (13, 78, .int .i64 c), (14, 79, .agg #[.int .i64 (wh v2), .int .u64 (wl v2)]), (15, 80, .pointer (some ⟨w.heap.size, 1, none⟩)), (16, 81, .int .i64 b), (17, 82, .pointer (some ⟨w.heap.size + 1, 1, none⟩)), (18, 83, .int .i64 d), (19, 84, .agg #[.int .i64 (wh v3), .int .u64 (wl v3)]), (20, 11, .pointer (some ⟨b0, 0, none⟩)), (21, 12, .pointer (some ⟨b1, 0, none⟩)), (22, 13, .pointer (some ⟨b2, 0, none⟩)), (23, 14, .pointer (some ⟨b3, 0, none⟩))] _) _
        rw [← hV]
        refine wpOp_of (by simp only [List.getElem?_toArray, List.getElem?_cons_succ, List.getElem?_cons_zero]; rfl) rfl ?_
        have gi : (l.setIfInBounds 27 true).getD 27 false = true := by simp [show 27 < l.size by omega]
        have hAL : l.getD 23 false = true := ready_on hi (by kernel_rfl)
        obtain ⟨q1, q2, q3⟩ := h23 hAL
        have OZ := q3 hnn
        refine wp_skip0 (w' := (x.setCell ⟨b3, 0, none⟩ (.int .i64 (wh v3))).setCell ⟨b3, 1, none⟩ (.int .u64 (wl v3))) rfl ?_ ⟨(b0, b1, b2, b3), ((putL_out (l := l) (i := 27) (vs := V) (by rw [hV]; show 27 ∉ ([0, 1, 2, 3, 4, 5, 6, 7, 8, 9, 10, 11, 12, 13, 14, 15, 16, 17, 18, 19, 20, 21, 22, 23] : List Nat); decide)).symm.trans (by rw [hV0])), by simp [hl], (by repeat (first | with_reducible exact hk | with_reducible refine Kept.setCell ?_ q1 _)), ?_, ?_, ?_, ?_, ?_, ?_, ?_, ?_, ?_, ?_, ?_, ?_, ?_, ?_⟩
        · clear hV hV0
          simp only [execOp, Go.resolve, List.map_toArray, List.map_cons, List.map_nil]
          rw [ev14 _ (by first | rfl | decide | (simp; done))]
          rw [ev84 _ (by first | rfl | decide | (simp; done))]
          obtain ⟨oz, og, oc0, oc1, _⟩ := OZ
          first | (simp [go_sem, og, oc0, oc1]; done) | (simp [go_sem, *]; done)
        · intro q
          rw [g20] at q
          obtain ⟨t1, t2, t3⟩ := h20 q
          have hne : b0 ≠ b3 := by
            first | exact e20_23 hAL q | exact (e20_23 q hAL) | exact (e20_23 hAL q).symm | exact (e20_23 q hAL).symm
          exact ⟨t1, fun z => OwnB.setOther (OwnB.setOther (t2 (by rwa [g24] at z)) hne) hne, fun z => OwnB.setOther (OwnB.setOther (t3 (by rwa [g24] at z)) hne) hne⟩
        · intro q
          rw [g21] at q
          obtain ⟨t1, t2, t3⟩ := h21 q
          have hne : b1 ≠ b3 := by
            first | exact e21_23 hAL q | exact (e21_23 q hAL) | exact (e21_23 hAL q).symm | exact (e21_23 q hAL).symm
          exact ⟨t1, fun z => OwnB.setOther (OwnB.setOther (t2 (by rwa [g25] at z)) hne) hne, fun z => OwnB.setOther (OwnB.setOther (t3 (by rwa [g25] at z)) hne) hne⟩
        · intro q
          rw [g22] at q
          obtain ⟨t1, t2, t3⟩ := h22 q
          have hne : b2 ≠ b3 := by
            first | exact e22_23 hAL q | exact (e22_23 q hAL) | exact (e22_23 hAL q).symm | exact (e22_23 q hAL).symm
          exact ⟨t1, fun z => OwnB.setOther (OwnB.setOther (t2 (by rwa [g26] at z)) hne) hne, fun z => OwnB.setOther (OwnB.setOther (t3 (by rwa [g26] at z)) hne) hne⟩
        · intro _
          refine ⟨q1, fun _ => own_set2 (us := [.int .i64 0, .int .u64 0]) OZ rfl, fun z => ?_⟩
          rw [gi] at z; cases z
        · simp only [g20, g21, g22, g23, g24, g25, g26]; assumption
        · simp only [g20, g21, g22, g23, g24, g25, g26]; assumption
        · simp only [g20, g21, g22, g23, g24, g25, g26]; assumption
        · simp only [g20, g21, g22, g23, g24, g25, g26]; assumption
        · simp only [g20, g21, g22, g23, g24, g25, g26]; assumption
        · simp only [g20, g21, g22, g23, g24, g25, g26]; assumption
        · simp only [g20, g21, g22, g23, g24, g25, g26]; assumption
        · simp only [g20, g21, g22, g23, g24, g25, g26]; assumption
        · simp only [g20, g21, g22, g23, g24, g25, g26]; assumption
        · intro _; rw [g23]; exact hAL
    · rintro ⟨b0, b1, b2, b3⟩ l x hr ⟨hl, hk, h20, h21, h22, h23, e20_21, e20_22, e21_22, e20_23, e21_23, e22_23, d20, d21, d22, d23⟩
      have HL := all_listed hr (by rw [hl]; rfl) (acyc_of (by kernel_rfl)) 28
      have g0 := HL 0 (by omega) (by show 0 < 28; omega)
      have g1 := HL 1 (by omega) (by show 1 < 28; omega)
      have g2 := HL 2 (by omega) (by show 2 < 28; omega)
      have g3 := HL 3 (by omega) (by show 3 < 28; omega)
      have g4 := HL 4 (by omega) (by show 4 < 28; omega)
      have g5 := HL 5 (by omega) (by show 5 < 28; omega)
      have g6 := HL 6 (by omega) (by show 6 < 28; omega)
      have g7 := HL 7 (by omega) (by show 7 < 28; omega)
      have g8 := HL 8 (by omega) (by show 8 < 28; omega)
      have g9 := HL 9 (by omega) (by show 9 < 28; omega)
      have g10 := HL 10 (by omega) (by show 10 < 28; omega)
      have g11 := HL 11 (by omega) (by show 11 < 28; omega)
      have g12 := HL 12 (by omega) (by show 12 < 28; omega)
      have g13 := HL 13 (by omega) (by show 13 < 28; omega)
      have g14 := HL 14 (by omega) (by show 14 < 28; omega)
      have g15 := HL 15 (by omega) (by show 15 < 28; omega)
      have g16 := HL 16 (by omega) (by show 16 < 28; omega)
      have g17 := HL 17 (by omega) (by show 17 < 28; omega)
      have g18 := HL 18 (by omega) (by show 18 < 28; omega)
      have g19 := HL 19 (by omega) (by show 19 < 28; omega)
      have g20 := HL 20 (by omega) (by show 20 < 28; omega)
      have g21 := HL 21 (by omega) (by show 21 < 28; omega)
      have g22 := HL 22 (by omega) (by show 22 < 28; omega)
      have g23 := HL 23 (by omega) (by show 23 < 28; omega)
      have g24 := HL 24 (by omega) (by show 24 < 28; omega)
      have g25 := HL 25 (by omega) (by show 25 < 28; omega)
      have g26 := HL 26 (by omega) (by show 26 < 28; omega)
      have g27 := HL 27 (by omega) (by show 27 < 28; omega)
      have zl0 : wc.heap.size ≤ b0 := (h20 g20).1
      have zp0 : OwnB x b0 [.int .i64 (wh v0), .int .u64 (wl v0)] := (h20 g20).2.1 g24
      have zl1 : wc.heap.size ≤ b1 := (h21 g21).1
      have zp1 : OwnB x b1 [.int .i64 (wh v1), .int .u64 (wl v1)] := (h21 g21).2.1 g25
      have zl2 : wc.heap.size ≤ b2 := (h22 g22).1
      have zp2 : OwnB x b2 [.int .i64 (wh v2), .int .u64 (wl v2)] := (h22 g22).2.1 g26
      have zl3 : wc.heap.size ≤ b3 := (h23 g23).1
      have zp3 : OwnB x b3 [.int .i64 (wh v3), .int .u64 (wl v3)] := (h23 g23).2.1 g27
      have zn0 : b0 ≠ b1 := e20_21 g20 g21
      have zn1 : b0 ≠ b2 := e20_22 g20 g22
      have zn2 : b1 ≠ b2 := e21_22 g21 g22
      have zn3 : b0 ≠ b3 := e20_23 g20 g23
      have zn4 : b1 ≠ b3 := e21_23 g21 g23
      have zn5 : b2 ≠ b3 := e22_23 g22 g23
      clear HL hr h20 h21 h22 h23 e20_21 e20_22 e21_22 e20_23 e21_23 e22_23 d20 d21 d22 d23
      simp only [putL, g0, g1, g2, g3, g4, g5, g6, g7, g8, g9, g10, g11, g12, g13, g14, g15, g16, g17, g18, g19, g20, g21, g22, g23, if_true]
      clear g0 g1 g2 g3 g4 g5 g6 g7 g8 g9 g10 g11 g12 g13 g14 g15 g16 g17 g18 g19 g20 g21 g22 g23 g24 g25 g26 g27
      have zb := HB1_1.out.1
      simp only [Act.put, List.setIfInBounds_toArray, List.set_cons_succ, List.set_cons_zero]
      refine hM_ _ _ (Met.intro (hR_ _ _ ?_))
      repeat apply Exists.intro
      refine ⟨?rel, rfl⟩
      case rel => exact ⟨b0, b1, b2, b3, rfl, rfl, rfl, rfl, by omega, by omega, by omega, by omega, Ne.symm zn0, Ne.symm zn1, Ne.symm zn2, Ne.symm zn3, Ne.symm zn4, Ne.symm zn5, zp0, zp1, zp2, zp3, OwnB.kept hk HB1_0.out, OwnB.kept hk HB1_1.out, OwnB.kept hk HB1_2.out, OwnB.kept hk HB1_3.out, OwnB.kept hk HB1_4.out, OwnB.kept hk HB1_5.out, hk⟩
  case rest =>
  obtain ⟨b2_0, b2_1, b2_2, b2_3, rfl, rfl, rfl, rfl, lt2_0, lt2_1, lt2_2, lt2_3, ne2_1_0, ne2_2_0, ne2_2_1, ne2_3_0, ne2_3_1, ne2_3_2, O2_0, O2_1, O2_2, O2_3, O2_4, O2_5, O2_6, O2_7, O2_8, O2_9, hkc2⟩ := hcut
  obtain ⟨hz_c2_0, hg_c2_0, hf_c2_0_0, hf_c2_0_1, _⟩ := O2_0
  obtain ⟨hz_c2_1, hg_c2_1, hf_c2_1_0, hf_c2_1_1, _⟩ := O2_1
  obtain ⟨hz_c2_2, hg_c2_2, hf_c2_2_0, hf_c2_2_1, _⟩ := O2_2
  obtain ⟨hz_c2_3, hg_c2_3, hf_c2_3_0, hf_c2_3_1, _⟩ := O2_3
  obtain ⟨hz_c2_4, hg_c2_4, hf_c2_4_0, hf_c2_4_1, _⟩ := O2_4
  obtain ⟨hz_c2_5, hg_c2_5, hf_c2_5_0, hf_c2_5_1, _⟩ := O2_5
  obtain ⟨hz_c2_6, hg_c2_6, hf_c2_6_0, hf_c2_6_1, _⟩ := O2_6
  obtain ⟨hz_c2_7, hg_c2_7, hf_c2_7_0, hf_c2_7_1, _⟩ := O2_7
  obtain ⟨hz_c2_8, hg_c2_8, hf_c2_8_0, hf_c2_8_1, _⟩ := O2_8
  obtain ⟨hz_c2_9, hg_c2_9, hf_c2_9_0, hf_c2_9_1, _⟩ := O2_9
  try clear hf_c1_0_0
  try clear hf_c1_0_1
  try clear hf_c1_1_0
  try clear hf_c1_1_1
  try clear hf_c1_2_0
  try clear hf_c1_2_1
  try clear hf_c1_3_0
  try clear hf_c1_3_1
  try clear hf_c1_4_0
  try clear hf_c1_4_1
  try clear hf_c1_5_0
  try clear hf_c1_5_1
  try clear hg_c1_0
  try clear hg_c1_1
  try clear hg_c1_2
  try clear hg_c1_3
  try clear hg_c1_4
  try clear hg_c1_5
  clear Hc0 Hc1 Hc2 Hc3 Hcl Hcg Hca Hcm
  obtain ⟨x0, hx0⟩ : ∃ z, (wh ml == wh v0 && wl ml == wl v0) = z := ⟨_, rfl⟩
  obtain ⟨y0, hy0⟩ : ∃ z, (wh mg == wh v0 && wl mg == wl v0) = z := ⟨_, rfl⟩
  have ex0 : ∀ w, (Op.equalIn 10000 30 (.agg #[.int .i64 (wh ml), .int .u64 (wl ml)]) (.agg #[.int .i64 (wh v0), .int .u64 (wl v0)])).run Try.prog w = .ok x0 w := fun w => by rw [eqWt, hx0]
  have ey0 : ∀ w, (Op.equalIn 10000 30 (.agg #[.int .i64 (wh mg), .int .u64 (wl mg)]) (.agg #[.int .i64 (wh v0), .int .u64 (wl v0)])).run Try.prog w = .ok y0 w := fun w => by rw [eqWt, hy0]
  obtain ⟨x1, hx1⟩ : ∃ z, (wh ml == wh v1 && wl ml == wl v1) = z := ⟨_, rfl⟩
  obtain ⟨y1, hy1⟩ : ∃ z, (wh mg == wh v1 && wl mg == wl v1) = z := ⟨_, rfl⟩
  have ex1 : ∀ w, (Op.equalIn 10000 30 (.agg #[.int .i64 (wh ml), .int .u64 (wl ml)]) (.agg #[.int .i64 (wh v1), .int .u64 (wl v1)])).run Try.prog w = .ok x1 w := fun w => by rw [eqWt, hx1]
  have ey1 : ∀ w, (Op.equalIn 10000 30 (.agg #[.int .i64 (wh mg), .int .u64 (wl mg)]) (.agg #[.int .i64 (wh v1), .int .u64 (wl v1)])).run Try.prog w = .ok y1 w := fun w => by rw [eqWt, hy1]
  obtain ⟨x2, hx2⟩ : ∃ z, (wh ml == wh v2 && wl ml == wl v2) = z := ⟨_, rfl⟩
  obtain ⟨y2, hy2⟩ : ∃ z, (wh mg == wh v2 && wl mg == wl v2) = z := ⟨_, rfl⟩
  have ex2 : ∀ w, (Op.equalIn 10000 30 (.agg #[.int .i64 (wh ml), .int .u64 (wl ml)]) (.agg #[.int .i64 (wh v2), .int .u64 (wl v2)])).run Try.prog w = .ok x2 w := fun w => by rw [eqWt, hx2]
  have ey2 : ∀ w, (Op.equalIn 10000 30 (.agg #[.int .i64 (wh mg), .int .u64 (wl mg)]) (.agg #[.int .i64 (wh v2), .int .u64 (wl v2)])).run Try.prog w = .ok y2 w := fun w => by rw [eqWt, hy2]
  obtain ⟨x3, hx3⟩ : ∃ z, (wh ml == wh v3 && wl ml == wl v3) = z := ⟨_, rfl⟩
  obtain ⟨y3, hy3⟩ : ∃ z, (wh mg == wh v3 && wl mg == wl v3) = z := ⟨_, rfl⟩
  have ex3 : ∀ w, (Op.equalIn 10000 30 (.agg #[.int .i64 (wh ml), .int .u64 (wl ml)]) (.agg #[.int .i64 (wh v3), .int .u64 (wl v3)])).run Try.prog w = .ok x3 w := fun w => by rw [eqWt, hx3]
  have ey3 : ∀ w, (Op.equalIn 10000 30 (.agg #[.int .i64 (wh mg), .int .u64 (wl mg)]) (.agg #[.int .i64 (wh v3), .int .u64 (wl v3)])).run Try.prog w = .ok y3 w := fun w => by rw [eqWt, hy3]
  have kx : x0 = true ∨ x1 = true ∨ x2 = true ∨ x3 = true := by
    rcases kL with h | h | h | h
    · have := wv_eq ml v0 h; rw [hx0] at this; simp [this]
    · have := wv_eq ml v1 h; rw [hx1] at this; simp [this]
    · have := wv_eq ml v2 h; rw [hx2] at this; simp [this]
    · have := wv_eq ml v3 h; rw [hx3] at this; simp [this]
  have ky : y0 = true ∨ y1 = true ∨ y2 = true ∨ y3 = true := by
    rcases kG with h | h | h | h
    · have := wv_eq mg v0 h; rw [hy0] at this; simp [this]
    · have := wv_eq mg v1 h; rw [hy1] at this; simp [this]
    · have := wv_eq mg v2 h; rw [hy2] at this; simp [this]
    · have := wv_eq mg v3 h; rw [hy3] at this; simp [this]
  clear kL kG hx0 hy0 hx1 hy1 hx2 hy2 hx3 hy3
  all_goals go_wp2_with fail
  all_goals first | (go_ret; refine ⟨?_, (by repeat (first | with_reducible exact Kept.refl _ | with_reducible assumption | with_reducible refine Kept.setCell ?_ (by first | (simp; done) | (simp; omega) | omega) _ | with_reducible refine Kept.alloc ?_ _ | with_reducible refine Kept.drewN ?_ _ | with_reducible refine Kept.drew ?_ | with_reducible refine Kept.trans ?_ (by with_reducible assumption) | with_reducible refine Kept.dr ?_ (by with_reducible assumption)))⟩; first | rfl | (refine retb ?_; simp_all; done) | (refine retb ?_; revert kx ky; cases x0 <;> cases x1 <;> cases x2 <;> cases x3 <;> cases y0 <;> cases y1 <;> cases y2 <;> cases y3 <;> simp)) | (exfalso; simp_all; done)
end Go.Proofs.Ytfmijkbmedfcfaa
