/-
  Own contracts: package sphere and the document's answers of layer 9: positions along a great circle.
-/
import Derived.Test.YtoilodcadngcoaaSphc
import Derived.WalkKit
import Derived.ProofKit
import Derived.OpenShut
import Derived.WalkLawsBesides
import Derived.WalkSpells
import Derived.Lib.Hide
import Derived.Deep.DeepCutAuto
import Derived.Deep.CutBlock
import Derived.Deep.QuietTactic
import Derived.BigQuiet
import Derived.Handy
import Derived.StillTailTactics
import Derived.IntWalk
import Derived.LoopN
import Derived.Deep.RegionHeld3
namespace Go.Proofs.Ytoilodcadngcoaa
open Go.ChangeShapes Go.WideShapes Go.ChangeAt Go.RowKit
set_option linter.unusedVariables false
set_option linter.unusedSimpArgs false
def psB (x y z : Int) : Bool := decide (¬ (x = 0 ∧ y = 0 ∧ z = 0) ∧ -1342177280 ≤ x ∧ x ≤ 1342177280 ∧ -1342177280 ≤ y ∧ y ≤ 1342177280 ∧ -1342177280 ≤ z ∧ z ≤ 1342177280)
def psLa (x y z : Int) : Int := if psB x y z = true then dirV z (hyV x y) else 0
def psLo (x y z : Int) : Int := if psB x y z = true then dirV y x else 0
def psE (x y z : Int) : Int := if psB x y z = true then 0 else 1
set_option maxHeartbeats 2000000 in
set_option maxRecDepth 100000 in
theorem position_w (x y z : Int) (x_0 : -9223372036854775808 ≤ x) (x_1 : x ≤ 9223372036854775807) (y_0 : -9223372036854775808 ≤ y) (y_1 : y ≤ 9223372036854775807) (z_0 : -9223372036854775808 ≤ z) (z_1 : z ≤ 9223372036854775807) (w : World) : Calls Try.prog 35 #[.agg #[.int .i64 x, .int .i64 y, .int .i64 z]] w fun e w' => e = .returned (.tuple #[.agg #[.int .i64 (psLa x y z), .int .i64 (psLo x y z)], .int .i64 (psE x y z)]) ∧ Kept w w' := by
  by_cases h : ¬ (x = 0 ∧ y = 0 ∧ z = 0) ∧ -1342177280 ≤ x ∧ x ≤ 1342177280 ∧ -1342177280 ≤ y ∧ y ≤ 1342177280 ∧ -1342177280 ≤ z ∧ z ≤ 1342177280
  · have hb : psB x y z = true := decide_eq_true h
    unfold psLa psLo psE
    rw [if_pos hb, if_pos hb, if_pos hb]
    exact position_ok x y z h.2.1 h.2.2.1 h.2.2.2.1 h.2.2.2.2.1 h.2.2.2.2.2.1 h.2.2.2.2.2.2 h.1 w
  · have hb : ¬ psB x y z = true := by unfold psB; rw [decide_eq_true_eq]; exact h
    unfold psLa psLo psE
    rw [if_neg hb, if_neg hb, if_neg hb]
    exact position_bad x y z x_0 x_1 y_0 y_1 z_0 z_1 (by omega) w
set_option maxHeartbeats 2000000 in
set_option maxRecDepth 100000 in
theorem ref_position_w (x y z : Int) (x_0 : -9223372036854775808 ≤ x) (x_1 : x ≤ 9223372036854775807) (y_0 : -9223372036854775808 ≤ y) (y_1 : y ≤ 9223372036854775807) (z_0 : -9223372036854775808 ≤ z) (z_1 : z ≤ 9223372036854775807) (w : World) : Calls Try.prog 41 #[.agg #[.int .i64 x, .int .i64 y, .int .i64 z]] w fun e w' => e = .returned (.tuple #[.agg #[.int .i64 (psLa x y z), .int .i64 (psLo x y z)], .int .i64 (psE x y z)]) ∧ Kept w w' := by
  by_cases h : ¬ (x = 0 ∧ y = 0 ∧ z = 0) ∧ -1342177280 ≤ x ∧ x ≤ 1342177280 ∧ -1342177280 ≤ y ∧ y ≤ 1342177280 ∧ -1342177280 ≤ z ∧ z ≤ 1342177280
  · have hb : psB x y z = true := decide_eq_true h
    unfold psLa psLo psE
    rw [if_pos hb, if_pos hb, if_pos hb]
    exact ref_position_ok x y z h.2.1 h.2.2.1 h.2.2.2.1 h.2.2.2.2.1 h.2.2.2.2.2.1 h.2.2.2.2.2.2 h.1 w
  · have hb : ¬ psB x y z = true := by unfold psB; rw [decide_eq_true_eq]; exact h
    unfold psLa psLo psE
    rw [if_neg hb, if_neg hb, if_neg hb]
    exact ref_position_bad x y z x_0 x_1 y_0 y_1 z_0 z_1 (by omega) w
def ah0 (la lo c : Int) : Int := r30 (-sinV lo * sinV c - fA la lo * cosV c)
def ah1 (la lo c : Int) : Int := r30 (cosV lo * sinV c - fB la lo * cosV c)
def ah2 (la lo c : Int) : Int := r30 (cosV la * cosV c)
def al0 (la lo c d : Int) : Int := r30 (uX la lo * cosV d + ah0 la lo c * sinV d)
def al1 (la lo c d : Int) : Int := r30 (uY la lo * cosV d + ah1 la lo c * sinV d)
def al2 (la lo c d : Int) : Int := r30 (uZ la lo * cosV d + ah2 la lo c * sinV d)
set_option maxHeartbeats 2000000 in
set_option maxRecDepth 100000 in
theorem along_ok (la lo : Int) (la0 : -32400000 ≤ la) (la1 : la ≤ 32400000) (lo0 : -64800000 < lo) (lo1 : lo ≤ 64800000) (c d : Int) (c_0 : -9223372036854775808 ≤ c) (c_1 : c ≤ 9223372036854775807) (d0 : 0 ≤ d) (d1 : d ≤ 64800000) (w : World) : Calls Try.prog 23 #[.agg #[.int .i64 la, .int .i64 lo], .int .i64 c, .int .i64 d] w fun e w' => e = .returned (.tuple #[.agg #[.int .i64 (psLa (al0 la lo c d) (al1 la lo c d) (al2 la lo c d)), .int .i64 (psLo (al0 la lo c d) (al1 la lo c d) (al2 la lo c d))], .int .i64 (psE (al0 la lo c d) (al1 la lo c d) (al2 la lo c d))]) ∧ Kept w w' := by
  have bd0 := sinV_bd lo
  obtain ⟨bd00, bd01⟩ := bd0
  have bd1 := cosV_bd lo
  obtain ⟨bd10, bd11⟩ := bd1
  have bd2 := cosV_bd la
  obtain ⟨bd20, bd21⟩ := bd2
  have bd3 := fA_bd la lo
  obtain ⟨bd30, bd31⟩ := bd3
  have bd4 := fB_bd la lo
  obtain ⟨bd40, bd41⟩ := bd4
  have bd5 := uX_bd la lo
  obtain ⟨bd50, bd51⟩ := bd5
  have bd6 := uY_bd la lo
  obtain ⟨bd60, bd61⟩ := bd6
  have bd7 := uZ_bd la lo
  obtain ⟨bd70, bd71⟩ := bd7
  have bd8 := sinV_bd c
  obtain ⟨bd80, bd81⟩ := bd8
  have bd9 := cosV_bd c
  obtain ⟨bd90, bd91⟩ := bd9
  have bd10 := sinV_bd d
  obtain ⟨bd100, bd101⟩ := bd10
  have bd11 := cosV_bd d
  obtain ⟨bd110, bd111⟩ := bd11
  obtain ⟨m00, m01⟩ := mul_sb (-sinV lo) (sinV c) (by omega) (by omega) (by omega) (by omega)
  obtain ⟨m10, m11⟩ := mul_sb (fA la lo) (cosV c) (by omega) (by omega) (by omega) (by omega)
  obtain ⟨m20, m21⟩ := mul_sb (cosV lo) (sinV c) (by omega) (by omega) (by omega) (by omega)
  obtain ⟨m30, m31⟩ := mul_sb (fB la lo) (cosV c) (by omega) (by omega) (by omega) (by omega)
  obtain ⟨m40, m41⟩ := mul_sb (cosV la) (cosV c) (by omega) (by omega) (by omega) (by omega)
  obtain ⟨m50, m51⟩ := mul_sb (uX la lo) (cosV d) (by omega) (by omega) (by omega) (by omega)
  obtain ⟨m60, m61⟩ := mul_sb (uY la lo) (cosV d) (by omega) (by omega) (by omega) (by omega)
  obtain ⟨m70, m71⟩ := mul_sb (uZ la lo) (cosV d) (by omega) (by omega) (by omega) (by omega)
  have g0_ : -2147483648 ≤ r30 (-sinV lo * sinV c - fA la lo * cosV c) ∧ r30 (-sinV lo * sinV c - fA la lo * cosV c) ≤ 2147483648 := by unfold r30; omega
  obtain ⟨A0, e0⟩ : ∃ A, r30 (-sinV lo * sinV c - fA la lo * cosV c) = A := ⟨_, rfl⟩
  rw [e0] at g0_
  obtain ⟨g00, g01⟩ := g0_
  have g1_ : -2147483648 ≤ r30 (cosV lo * sinV c - fB la lo * cosV c) ∧ r30 (cosV lo * sinV c - fB la lo * cosV c) ≤ 2147483648 := by unfold r30; omega
  obtain ⟨A1, e1⟩ : ∃ A, r30 (cosV lo * sinV c - fB la lo * cosV c) = A := ⟨_, rfl⟩
  rw [e1] at g1_
  obtain ⟨g10, g11⟩ := g1_
  have g2_ : -2147483648 ≤ r30 (cosV la * cosV c) ∧ r30 (cosV la * cosV c) ≤ 2147483648 := by unfold r30; omega
  obtain ⟨A2, e2⟩ : ∃ A, r30 (cosV la * cosV c) = A := ⟨_, rfl⟩
  rw [e2] at g2_
  obtain ⟨g20, g21⟩ := g2_
  obtain ⟨k00, k01⟩ := mul_sb' A0 (sinV d) 2147483648 1073741824 (by omega) (by omega) (by omega) (by omega)
  obtain ⟨k10, k11⟩ := mul_sb' A1 (sinV d) 2147483648 1073741824 (by omega) (by omega) (by omega) (by omega)
  obtain ⟨k20, k21⟩ := mul_sb' A2 (sinV d) 2147483648 1073741824 (by omega) (by omega) (by omega) (by omega)
  have f0_ : -4294967296 ≤ r30 (uX la lo * cosV d + A0 * sinV d) ∧ r30 (uX la lo * cosV d + A0 * sinV d) ≤ 4294967296 := by unfold r30; omega
  obtain ⟨V0, v0_⟩ : ∃ A, r30 (uX la lo * cosV d + A0 * sinV d) = A := ⟨_, rfl⟩
  rw [v0_] at f0_
  obtain ⟨f00, f01⟩ := f0_
  have G0 : al0 la lo c d = V0 := by unfold al0 ah0; rw [e0, v0_]
  rw [G0]
  clear G0
  have f1_ : -4294967296 ≤ r30 (uY la lo * cosV d + A1 * sinV d) ∧ r30 (uY la lo * cosV d + A1 * sinV d) ≤ 4294967296 := by unfold r30; omega
  obtain ⟨V1, v1_⟩ : ∃ A, r30 (uY la lo * cosV d + A1 * sinV d) = A := ⟨_, rfl⟩
  rw [v1_] at f1_
  obtain ⟨f10, f11⟩ := f1_
  have G1 : al1 la lo c d = V1 := by unfold al1 ah1; rw [e1, v1_]
  rw [G1]
  clear G1
  have f2_ : -4294967296 ≤ r30 (uZ la lo * cosV d + A2 * sinV d) ∧ r30 (uZ la lo * cosV d + A2 * sinV d) ≤ 4294967296 := by unfold r30; omega
  obtain ⟨V2, v2_⟩ : ∃ A, r30 (uZ la lo * cosV d + A2 * sinV d) = A := ⟨_, rfl⟩
  rw [v2_] at f2_
  obtain ⟨f20, f21⟩ := f2_
  have G2 : al2 la lo c d = V2 := by unfold al2 ah2; rw [e2, v2_]
  rw [G2]
  clear G2
  have wr0 : IntKind.i64.wrap (-sinV lo) = -sinV lo := IntWalk.i64_in _ (by omega)
  have wr1 : IntKind.i64.wrap (-sinV lo * sinV c) = -sinV lo * sinV c := IntWalk.i64_in _ (by omega)
  have wr2 : IntKind.i64.wrap (fA la lo * cosV c) = fA la lo * cosV c := IntWalk.i64_in _ (by omega)
  have wr3 : IntKind.i64.wrap (cosV lo * sinV c) = cosV lo * sinV c := IntWalk.i64_in _ (by omega)
  have wr4 : IntKind.i64.wrap (fB la lo * cosV c) = fB la lo * cosV c := IntWalk.i64_in _ (by omega)
  have wr5 : IntKind.i64.wrap (cosV la * cosV c) = cosV la * cosV c := IntWalk.i64_in _ (by omega)
  have wr6 : IntKind.i64.wrap (-sinV lo * sinV c - fA la lo * cosV c) = -sinV lo * sinV c - fA la lo * cosV c := IntWalk.i64_in _ (by omega)
  have wr7 : IntKind.i64.wrap (cosV lo * sinV c - fB la lo * cosV c) = cosV lo * sinV c - fB la lo * cosV c := IntWalk.i64_in _ (by omega)
  have wr8 : IntKind.i64.wrap (uX la lo * cosV d) = uX la lo * cosV d := IntWalk.i64_in _ (by omega)
  have wr9 : IntKind.i64.wrap (uY la lo * cosV d) = uY la lo * cosV d := IntWalk.i64_in _ (by omega)
  have wr10 : IntKind.i64.wrap (uZ la lo * cosV d) = uZ la lo * cosV d := IntWalk.i64_in _ (by omega)
  have wr11 : IntKind.i64.wrap (A0 * sinV d) = A0 * sinV d := IntWalk.i64_in _ (by omega)
  have wr12 : IntKind.i64.wrap (A1 * sinV d) = A1 * sinV d := IntWalk.i64_in _ (by omega)
  have wr13 : IntKind.i64.wrap (A2 * sinV d) = A2 * sinV d := IntWalk.i64_in _ (by omega)
  have wr14 : IntKind.i64.wrap (uX la lo * cosV d + A0 * sinV d) = uX la lo * cosV d + A0 * sinV d := IntWalk.i64_in _ (by omega)
  have wr15 : IntKind.i64.wrap (uY la lo * cosV d + A1 * sinV d) = uY la lo * cosV d + A1 * sinV d := IntWalk.i64_in _ (by omega)
  have wr16 : IntKind.i64.wrap (uZ la lo * cosV d + A2 * sinV d) = uZ la lo * cosV d + A2 * sinV d := IntWalk.i64_in _ (by omega)
  go_enter Try.func23, Try.ntmps23
  go_wp2_with fail
  with_reducible refine (valid_ok la lo la0 la1 lo0 lo1 _).mono ?_
  rintro e w1 ⟨rfl, hk1⟩
  refine kuse (b := w.heap.size) hk1 (by first | (simp; done) | (simp; omega) | omega) ?_
  intro ha hb
  have hz1_0 : w.heap.size < w1.heap.size := by have := hk1.size; (try simp at this); omega
  have hn1_0 : ¬ w.heap.size = w1.heap.size := by omega
  have hm1_0 : ¬ w1.heap.size = w.heap.size := by omega
  have hf1_0_0 : w1.cell? ⟨w.heap.size, 0, none⟩ = some (.int .i64 la) := by first | (rw [ha]; with_reducible assumption) | (simp (maxDischargeDepth := 7) [go_sem, ha]; done) | (rw [ha]; assumption) | (simp (maxDischargeDepth := 7) [go_sem, ha, *]; done)
  have hf1_0_1 : w1.cell? ⟨w.heap.size, 1, none⟩ = some (.int .i64 lo) := by first | (rw [ha]; with_reducible assumption) | (simp (maxDischargeDepth := 7) [go_sem, ha]; done) | (rw [ha]; assumption) | (simp (maxDischargeDepth := 7) [go_sem, ha, *]; done)
  try have hg1_0 : ∀ o, w1.frozen? ⟨w.heap.size, o, none⟩ = false := by intro o; first | (simp (maxDischargeDepth := 7) [go_sem, hb]; done) | (rw [hb]; simp (maxDischargeDepth := 7) [go_sem, *]; done)
  clear ha hb
  refine kuse (b := w.heap.size + 1) hk1 (by first | (simp; done) | (simp; omega) | omega) ?_
  intro ha hb
  have hz1_1 : w.heap.size + 1 < w1.heap.size := by have := hk1.size; (try simp at this); omega
  have hn1_1 : ¬ w.heap.size + 1 = w1.heap.size := by omega
  have hm1_1 : ¬ w1.heap.size = w.heap.size + 1 := by omega
  have hf1_1_0 : w1.cell? ⟨w.heap.size + 1, 0, none⟩ = some (.int .i64 (0)) := by first | (rw [ha]; with_reducible assumption) | (simp (maxDischargeDepth := 7) [go_sem, ha]; done) | (rw [ha]; assumption) | (simp (maxDischargeDepth := 7) [go_sem, ha, *]; done)
  have hf1_1_1 : w1.cell? ⟨w.heap.size + 1, 1, none⟩ = some (.int .i64 (0)) := by first | (rw [ha]; with_reducible assumption) | (simp (maxDischargeDepth := 7) [go_sem, ha]; done) | (rw [ha]; assumption) | (simp (maxDischargeDepth := 7) [go_sem, ha, *]; done)
  try have hg1_1 : ∀ o, w1.frozen? ⟨w.heap.size + 1, o, none⟩ = false := by intro o; first | (simp (maxDischargeDepth := 7) [go_sem, hb]; done) | (rw [hb]; simp (maxDischargeDepth := 7) [go_sem, *]; done)
  clear ha hb
  go_wp2_with fail
  with_reducible refine (frame_w la lo la0 la1 lo0 lo1 _).mono ?_
  rintro e w2 ⟨rfl, hk2⟩
  refine kuse (b := w.heap.size) hk2 (by first | (simp; done) | (simp; omega) | omega) ?_
  intro ha hb
  have hz2_0 : w.heap.size < w2.heap.size := by have := hk2.size; (try simp at this); omega
  have hn2_0 : ¬ w.heap.size = w2.heap.size := by omega
  have hm2_0 : ¬ w2.heap.size = w.heap.size := by omega
  have hf2_0_0 : w2.cell? ⟨w.heap.size, 0, none⟩ = some (.int .i64 la) := by first | (rw [ha]; with_reducible assumption) | (simp (maxDischargeDepth := 7) [go_sem, ha]; done) | (rw [ha]; assumption) | (simp (maxDischargeDepth := 7) [go_sem, ha, *]; done)
  have hf2_0_1 : w2.cell? ⟨w.heap.size, 1, none⟩ = some (.int .i64 lo) := by first | (rw [ha]; with_reducible assumption) | (simp (maxDischargeDepth := 7) [go_sem, ha]; done) | (rw [ha]; assumption) | (simp (maxDischargeDepth := 7) [go_sem, ha, *]; done)
  try have hg2_0 : ∀ o, w2.frozen? ⟨w.heap.size, o, none⟩ = false := by intro o; first | (simp (maxDischargeDepth := 7) [go_sem, hb]; done) | (rw [hb]; simp (maxDischargeDepth := 7) [go_sem, *]; done)
  clear ha hb
  refine kuse (b := w.heap.size + 1) hk2 (by first | (simp; done) | (simp; omega) | omega) ?_
  intro ha hb
  have hz2_1 : w.heap.size + 1 < w2.heap.size := by have := hk2.size; (try simp at this); omega
  have hn2_1 : ¬ w.heap.size + 1 = w2.heap.size := by omega
  have hm2_1 : ¬ w2.heap.size = w.heap.size + 1 := by omega
  have hf2_1_0 : w2.cell? ⟨w.heap.size + 1, 0, none⟩ = some (.int .i64 (0)) := by first | (rw [ha]; with_reducible assumption) | (simp (maxDischargeDepth := 7) [go_sem, ha]; done) | (rw [ha]; assumption) | (simp (maxDischargeDepth := 7) [go_sem, ha, *]; done)
  have hf2_1_1 : w2.cell? ⟨w.heap.size + 1, 1, none⟩ = some (.int .i64 (0)) := by first | (rw [ha]; with_reducible assumption) | (simp (maxDischargeDepth := 7) [go_sem, ha]; done) | (rw [ha]; assumption) | (simp (maxDischargeDepth := 7) [go_sem, ha, *]; done)
  try have hg2_1 : ∀ o, w2.frozen? ⟨w.heap.size + 1, o, none⟩ = false := by intro o; first | (simp (maxDischargeDepth := 7) [go_sem, hb]; done) | (rw [hb]; simp (maxDischargeDepth := 7) [go_sem, *]; done)
  clear ha hb
  try clear hf1_0_0
  try clear hf1_0_1
  try clear hf1_1_0
  try clear hf1_1_1
  try clear hg1_0
  try clear hg1_1
  try clear hz1_1
  go_wp2_with fail
  with_reducible refine (sin_w c (by omega) (by omega) _).mono ?_
  rintro e w3 ⟨rfl, hk3⟩
  refine kuse (b := w.heap.size) hk3 (by first | (simp; done) | (simp; omega) | omega) ?_
  intro ha hb
  have hz3_0 : w.heap.size < w3.heap.size := by have := hk3.size; (try simp at this); omega
  have hn3_0 : ¬ w.heap.size = w3.heap.size := by omega
  have hm3_0 : ¬ w3.heap.size = w.heap.size := by omega
  have hf3_0_0 : w3.cell? ⟨w.heap.size, 0, none⟩ = some (.int .i64 la) := by first | (rw [ha]; with_reducible assumption) | (simp (maxDischargeDepth := 7) [go_sem, ha]; done) | (rw [ha]; assumption) | (simp (maxDischargeDepth := 7) [go_sem, ha, *]; done)
  have hf3_0_1 : w3.cell? ⟨w.heap.size, 1, none⟩ = some (.int .i64 lo) := by first | (rw [ha]; with_reducible assumption) | (simp (maxDischargeDepth := 7) [go_sem, ha]; done) | (rw [ha]; assumption) | (simp (maxDischargeDepth := 7) [go_sem, ha, *]; done)
  try have hg3_0 : ∀ o, w3.frozen? ⟨w.heap.size, o, none⟩ = false := by intro o; first | (simp (maxDischargeDepth := 7) [go_sem, hb]; done) | (rw [hb]; simp (maxDischargeDepth := 7) [go_sem, *]; done)
  clear ha hb
  refine kuse (b := w.heap.size + 1) hk3 (by first | (simp; done) | (simp; omega) | omega) ?_
  intro ha hb
  have hz3_1 : w.heap.size + 1 < w3.heap.size := by have := hk3.size; (try simp at this); omega
  have hn3_1 : ¬ w.heap.size + 1 = w3.heap.size := by omega
  have hm3_1 : ¬ w3.heap.size = w.heap.size + 1 := by omega
  have hf3_1_0 : w3.cell? ⟨w.heap.size + 1, 0, none⟩ = some (.int .i64 (0)) := by first | (rw [ha]; with_reducible assumption) | (simp (maxDischargeDepth := 7) [go_sem, ha]; done) | (rw [ha]; assumption) | (simp (maxDischargeDepth := 7) [go_sem, ha, *]; done)
  have hf3_1_1 : w3.cell? ⟨w.heap.size + 1, 1, none⟩ = some (.int .i64 (0)) := by first | (rw [ha]; with_reducible assumption) | (simp (maxDischargeDepth := 7) [go_sem, ha]; done) | (rw [ha]; assumption) | (simp (maxDischargeDepth := 7) [go_sem, ha, *]; done)
  try have hg3_1 : ∀ o, w3.frozen? ⟨w.heap.size + 1, o, none⟩ = false := by intro o; first | (simp (maxDischargeDepth := 7) [go_sem, hb]; done) | (rw [hb]; simp (maxDischargeDepth := 7) [go_sem, *]; done)
  clear ha hb
  refine kuse (b := w2.heap.size) hk3 (by first | (simp; done) | (simp; omega) | omega) ?_
  intro ha hb
  have hz3_2 : w2.heap.size < w3.heap.size := by have := hk3.size; (try simp at this); omega
  have hn3_2 : ¬ w2.heap.size = w3.heap.size := by omega
  have hm3_2 : ¬ w3.heap.size = w2.heap.size := by omega
  have hf3_2_0 : w3.cell? ⟨w2.heap.size, 0, none⟩ = some (.int .i64 (sinV lo)) := by first | (rw [ha]; with_reducible assumption) | (simp (maxDischargeDepth := 7) [go_sem, ha]; done) | (rw [ha]; assumption) | (simp (maxDischargeDepth := 7) [go_sem, ha, *]; done)
  have hf3_2_1 : w3.cell? ⟨w2.heap.size, 1, none⟩ = some (.int .i64 (cosV lo)) := by first | (rw [ha]; with_reducible assumption) | (simp (maxDischargeDepth := 7) [go_sem, ha]; done) | (rw [ha]; assumption) | (simp (maxDischargeDepth := 7) [go_sem, ha, *]; done)
  have hf3_2_2 : w3.cell? ⟨w2.heap.size, 2, none⟩ = some (.int .i64 (fA la lo)) := by first | (rw [ha]; with_reducible assumption) | (simp (maxDischargeDepth := 7) [go_sem, ha]; done) | (rw [ha]; assumption) | (simp (maxDischargeDepth := 7) [go_sem, ha, *]; done)
  have hf3_2_3 : w3.cell? ⟨w2.heap.size, 3, none⟩ = some (.int .i64 (fB la lo)) := by first | (rw [ha]; with_reducible assumption) | (simp (maxDischargeDepth := 7) [go_sem, ha]; done) | (rw [ha]; assumption) | (simp (maxDischargeDepth := 7) [go_sem, ha, *]; done)
  have hf3_2_4 : w3.cell? ⟨w2.heap.size, 4, none⟩ = some (.int .i64 (cosV la)) := by first | (rw [ha]; with_reducible assumption) | (simp (maxDischargeDepth := 7) [go_sem, ha]; done) | (rw [ha]; assumption) | (simp (maxDischargeDepth := 7) [go_sem, ha, *]; done)
  have hf3_2_5 : w3.cell? ⟨w2.heap.size, 5, none⟩ = some (.int .i64 (uX la lo)) := by first | (rw [ha]; with_reducible assumption) | (simp (maxDischargeDepth := 7) [go_sem, ha]; done) | (rw [ha]; assumption) | (simp (maxDischargeDepth := 7) [go_sem, ha, *]; done)
  have hf3_2_6 : w3.cell? ⟨w2.heap.size, 6, none⟩ = some (.int .i64 (uY la lo)) := by first | (rw [ha]; with_reducible assumption) | (simp (maxDischargeDepth := 7) [go_sem, ha]; done) | (rw [ha]; assumption) | (simp (maxDischargeDepth := 7) [go_sem, ha, *]; done)
  have hf3_2_7 : w3.cell? ⟨w2.heap.size, 7, none⟩ = some (.int .i64 (uZ la lo)) := by first | (rw [ha]; with_reducible assumption) | (simp (maxDischargeDepth := 7) [go_sem, ha]; done) | (rw [ha]; assumption) | (simp (maxDischargeDepth := 7) [go_sem, ha, *]; done)
  try have hg3_2 : ∀ o, w3.frozen? ⟨w2.heap.size, o, none⟩ = false := by intro o; first | (simp (maxDischargeDepth := 7) [go_sem, hb]; done) | (rw [hb]; simp (maxDischargeDepth := 7) [go_sem, *]; done)
  clear ha hb
  try clear hf2_0_0
  try clear hf2_0_1
  try clear hf2_1_0
  try clear hf2_1_1
  try clear hg2_0
  try clear hg2_1
  try clear hz2_1
  go_wp2_with fail
  with_reducible refine (cos_w c (by omega) (by omega) _).mono ?_
  rintro e w4 ⟨rfl, hk4⟩
  refine kuse (b := w.heap.size) hk4 (by first | (simp; done) | (simp; omega) | omega) ?_
  intro ha hb
  have hz4_0 : w.heap.size < w4.heap.size := by have := hk4.size; (try simp at this); omega
  have hn4_0 : ¬ w.heap.size = w4.heap.size := by omega
  have hm4_0 : ¬ w4.heap.size = w.heap.size := by omega
  have hf4_0_0 : w4.cell? ⟨w.heap.size, 0, none⟩ = some (.int .i64 la) := by first | (rw [ha]; with_reducible assumption) | (simp (maxDischargeDepth := 7) [go_sem, ha]; done) | (rw [ha]; assumption) | (simp (maxDischargeDepth := 7) [go_sem, ha, *]; done)
  have hf4_0_1 : w4.cell? ⟨w.heap.size, 1, none⟩ = some (.int .i64 lo) := by first | (rw [ha]; with_reducible assumption) | (simp (maxDischargeDepth := 7) [go_sem, ha]; done) | (rw [ha]; assumption) | (simp (maxDischargeDepth := 7) [go_sem, ha, *]; done)
  try have hg4_0 : ∀ o, w4.frozen? ⟨w.heap.size, o, none⟩ = false := by intro o; first | (simp (maxDischargeDepth := 7) [go_sem, hb]; done) | (rw [hb]; simp (maxDischargeDepth := 7) [go_sem, *]; done)
  clear ha hb
  refine kuse (b := w.heap.size + 1) hk4 (by first | (simp; done) | (simp; omega) | omega) ?_
  intro ha hb
  have hz4_1 : w.heap.size + 1 < w4.heap.size := by have := hk4.size; (try simp at this); omega
  have hn4_1 : ¬ w.heap.size + 1 = w4.heap.size := by omega
  have hm4_1 : ¬ w4.heap.size = w.heap.size + 1 := by omega
  have hf4_1_0 : w4.cell? ⟨w.heap.size + 1, 0, none⟩ = some (.int .i64 (0)) := by first | (rw [ha]; with_reducible assumption) | (simp (maxDischargeDepth := 7) [go_sem, ha]; done) | (rw [ha]; assumption) | (simp (maxDischargeDepth := 7) [go_sem, ha, *]; done)
  have hf4_1_1 : w4.cell? ⟨w.heap.size + 1, 1, none⟩ = some (.int .i64 (0)) := by first | (rw [ha]; with_reducible assumption) | (simp (maxDischargeDepth := 7) [go_sem, ha]; done) | (rw [ha]; assumption) | (simp (maxDischargeDepth := 7) [go_sem, ha, *]; done)
  try have hg4_1 : ∀ o, w4.frozen? ⟨w.heap.size + 1, o, none⟩ = false := by intro o; first | (simp (maxDischargeDepth := 7) [go_sem, hb]; done) | (rw [hb]; simp (maxDischargeDepth := 7) [go_sem, *]; done)
  clear ha hb
  refine kuse (b := w2.heap.size) hk4 (by first | (simp; done) | (simp; omega) | omega) ?_
  intro ha hb
  have hz4_2 : w2.heap.size < w4.heap.size := by have := hk4.size; (try simp at this); omega
  have hn4_2 : ¬ w2.heap.size = w4.heap.size := by omega
  have hm4_2 : ¬ w4.heap.size = w2.heap.size := by omega
  have hf4_2_0 : w4.cell? ⟨w2.heap.size, 0, none⟩ = some (.int .i64 (sinV lo)) := by first | (rw [ha]; with_reducible assumption) | (simp (maxDischargeDepth := 7) [go_sem, ha]; done) | (rw [ha]; assumption) | (simp (maxDischargeDepth := 7) [go_sem, ha, *]; done)
  have hf4_2_1 : w4.cell? ⟨w2.heap.size, 1, none⟩ = some (.int .i64 (cosV lo)) := by first | (rw [ha]; with_reducible assumption) | (simp (maxDischargeDepth := 7) [go_sem, ha]; done) | (rw [ha]; assumption) | (simp (maxDischargeDepth := 7) [go_sem, ha, *]; done)
  have hf4_2_2 : w4.cell? ⟨w2.heap.size, 2, none⟩ = some (.int .i64 (fA la lo)) := by first | (rw [ha]; with_reducible assumption) | (simp (maxDischargeDepth := 7) [go_sem, ha]; done) | (rw [ha]; assumption) | (simp (maxDischargeDepth := 7) [go_sem, ha, *]; done)
  have hf4_2_3 : w4.cell? ⟨w2.heap.size, 3, none⟩ = some (.int .i64 (fB la lo)) := by first | (rw [ha]; with_reducible assumption) | (simp (maxDischargeDepth := 7) [go_sem, ha]; done) | (rw [ha]; assumption) | (simp (maxDischargeDepth := 7) [go_sem, ha, *]; done)
  have hf4_2_4 : w4.cell? ⟨w2.heap.size, 4, none⟩ = some (.int .i64 (cosV la)) := by first | (rw [ha]; with_reducible assumption) | (simp (maxDischargeDepth := 7) [go_sem, ha]; done) | (rw [ha]; assumption) | (simp (maxDischargeDepth := 7) [go_sem, ha, *]; done)
  have hf4_2_5 : w4.cell? ⟨w2.heap.size, 5, none⟩ = some (.int .i64 (uX la lo)) := by first | (rw [ha]; with_reducible assumption) | (simp (maxDischargeDepth := 7) [go_sem, ha]; done) | (rw [ha]; assumption) | (simp (maxDischargeDepth := 7) [go_sem, ha, *]; done)
  have hf4_2_6 : w4.cell? ⟨w2.heap.size, 6, none⟩ = some (.int .i64 (uY la lo)) := by first | (rw [ha]; with_reducible assumption) | (simp (maxDischargeDepth := 7) [go_sem, ha]; done) | (rw [ha]; assumption) | (simp (maxDischargeDepth := 7) [go_sem, ha, *]; done)
  have hf4_2_7 : w4.cell? ⟨w2.heap.size, 7, none⟩ = some (.int .i64 (uZ la lo)) := by first | (rw [ha]; with_reducible assumption) | (simp (maxDischargeDepth := 7) [go_sem, ha]; done) | (rw [ha]; assumption) | (simp (maxDischargeDepth := 7) [go_sem, ha, *]; done)
  try have hg4_2 : ∀ o, w4.frozen? ⟨w2.heap.size, o, none⟩ = false := by intro o; first | (simp (maxDischargeDepth := 7) [go_sem, hb]; done) | (rw [hb]; simp (maxDischargeDepth := 7) [go_sem, *]; done)
  clear ha hb
  try clear hf3_0_0
  try clear hf3_0_1
  try clear hf3_1_0
  try clear hf3_1_1
  try clear hf3_2_0
  try clear hf3_2_1
  try clear hf3_2_2
  try clear hf3_2_3
  try clear hf3_2_4
  try clear hf3_2_5
  try clear hf3_2_6
  try clear hf3_2_7
  try clear hg3_0
  try clear hg3_1
  try clear hg3_2
  try clear hz3_1
  try clear hz3_2
  go_wp2_with fail
  have B0 : OwnB w4 (w.heap.size) [.int .i64 la, .int .i64 lo] := ⟨hz4_0, hg4_0, hf4_0_0, hf4_0_1, trivial⟩
  have HB0_0 := Lib.hid B0
  clear B0
  have B1 : OwnB w4 (w.heap.size + 1) [.int .i64 (0), .int .i64 (0)] := ⟨hz4_1, hg4_1, hf4_1_0, hf4_1_1, trivial⟩
  have HB0_1 := Lib.hid B1
  clear B1
  have B2 : OwnB w4 (w2.heap.size) [.int .i64 (sinV lo), .int .i64 (cosV lo), .int .i64 (fA la lo), .int .i64 (fB la lo), .int .i64 (cosV la), .int .i64 (uX la lo), .int .i64 (uY la lo), .int .i64 (uZ la lo)] := ⟨hz4_2, hg4_2, hf4_2_0, hf4_2_1, hf4_2_2, hf4_2_3, hf4_2_4, hf4_2_5, hf4_2_6, hf4_2_7, trivial⟩
  have HB0_2 := Lib.hid B2
  clear B2
  go_upto_region 7 with (fail)
  go_cut [11] (fun p0 wx => ∃ b0 : Nat, p0 = .pointer (some ⟨b0, 0, none⟩) ∧ w.heap.size + 1 < b0 ∧ OwnB wx (b0) [.int .i64 (A0), .int .i64 (A1), .int .i64 (A2)] ∧ OwnB wx (w.heap.size) [.int .i64 la, .int .i64 lo] ∧ OwnB wx (w.heap.size + 1) [.int .i64 (0), .int .i64 (0)] ∧ OwnB wx (w2.heap.size) [.int .i64 (sinV lo), .int .i64 (cosV lo), .int .i64 (fA la lo), .int .i64 (fB la lo), .int .i64 (cosV la), .int .i64 (uX la lo), .int .i64 (uY la lo), .int .i64 (uZ la lo)] ∧ Kept w4 wx)
  case first =>
    go_region_held3 (fun W => W.cell? ⟨w2.heap.size, 0, none⟩ = some (.int .i64 (sinV lo)) ∧ W.cell? ⟨w2.heap.size, 1, none⟩ = some (.int .i64 (cosV lo)) ∧ W.cell? ⟨w2.heap.size, 2, none⟩ = some (.int .i64 (fA la lo)) ∧ W.cell? ⟨w2.heap.size, 3, none⟩ = some (.int .i64 (fB la lo)) ∧ W.cell? ⟨w2.heap.size, 4, none⟩ = some (.int .i64 (cosV la)) ∧ W.cell? ⟨w2.heap.size, 5, none⟩ = some (.int .i64 (uX la lo)) ∧ W.cell? ⟨w2.heap.size, 6, none⟩ = some (.int .i64 (uY la lo)) ∧ W.cell? ⟨w2.heap.size, 7, none⟩ = some (.int .i64 (uZ la lo))) (first | (go_keep; done) | (simp (maxDischargeDepth := 9) [*, World.cell?_alloc_some, World.cell?_setCell_far]; done) | (simp (maxDischargeDepth := 9) [go_sem, *]; done)) (first | (go_at_call 44; with_reducible refine (sround_w _ (by omega) (by omega) _).mono ?_; rintro e w' ⟨rfl, rfl⟩))
    all_goals (try go_wp2_with fail)
    all_goals (go_meet; case rel => refine (fun (hkx : Kept w4 _) => ⟨_, rfl, (by first | with_reducible assumption | omega | (simp; omega)), (by repeat (first | with_reducible exact own_alloc _ [.int .i64 (A0), .int .i64 (A1), .int .i64 (A2)] 44 | with_reducible exact own_alloc _ [.int .i64 0, .int .i64 0, .int .i64 0] 44 | ((with_reducible refine own_allocE _ [.int .i64 (A0), .int .i64 (A1), .int .i64 (A2)] 44 _ ?_); (simp; done)) | ((with_reducible refine own_allocE _ [.int .i64 0, .int .i64 0, .int .i64 0] 44 _ ?_); (simp; done)) | with_reducible refine own_set3 (us := [.int .i64 0, .int .i64 0, .int .i64 0]) ?_ rfl | with_reducible refine OwnB.other3 ?_ (by first | with_reducible assumption | omega | (simp; done) | (simp; omega)) | with_reducible refine OwnB.alloc ?_ _ | with_reducible refine OwnB.drew ?_ | with_reducible refine OwnB.drewN ?_ _ | with_reducible refine OwnB.kept (by with_reducible assumption) ?_)), OwnB.kept hkx HB0_0.out, OwnB.kept hkx HB0_1.out, OwnB.kept hkx HB0_2.out, hkx⟩) ?_; exact (by repeat (first | with_reducible exact Kept.refl _ | with_reducible assumption | with_reducible refine Kept.set12 ?_ (by first | with_reducible assumption | omega | (simp; done) | (simp; omega)) | with_reducible refine Kept.set11 ?_ (by first | with_reducible assumption | omega | (simp; done) | (simp; omega)) | with_reducible refine Kept.set10 ?_ (by first | with_reducible assumption | omega | (simp; done) | (simp; omega)) | with_reducible refine Kept.set9 ?_ (by first | with_reducible assumption | omega | (simp; done) | (simp; omega)) | with_reducible refine Kept.set8 ?_ (by first | with_reducible assumption | omega | (simp; done) | (simp; omega)) | with_reducible refine Kept.set7 ?_ (by first | with_reducible assumption | omega | (simp; done) | (simp; omega)) | with_reducible refine Kept.set6 ?_ (by first | with_reducible assumption | omega | (simp; done) | (simp; omega)) | with_reducible refine Kept.set5 ?_ (by first | with_reducible assumption | omega | (simp; done) | (simp; omega)) | with_reducible refine Kept.set4 ?_ (by first | with_reducible assumption | omega | (simp; done) | (simp; omega)) | with_reducible refine Kept.set3 ?_ (by first | with_reducible assumption | omega | (simp; done) | (simp; omega)) | with_reducible refine Kept.set2 ?_ (by first | with_reducible assumption | omega | (simp; done) | (simp; omega)) | with_reducible refine Kept.setCell ?_ (by first | with_reducible assumption | omega | (simp; done) | (simp; omega)) _ | with_reducible refine Kept.alloc ?_ _ | with_reducible refine Kept.drewN ?_ _ | with_reducible refine Kept.drew ?_ | with_reducible refine Kept.trans ?_ (by with_reducible assumption) | with_reducible refine Kept.dr ?_ (by with_reducible assumption))))
  case rest =>
  obtain ⟨b1_0, rfl, lt1_0, O1_0, O1_1, O1_2, O1_3, hkc1⟩ := hcut
  obtain ⟨hz_c1_0, hg_c1_0, hf_c1_0_0, hf_c1_0_1, hf_c1_0_2, _⟩ := O1_0
  obtain ⟨hz_c1_1, hg_c1_1, hf_c1_1_0, hf_c1_1_1, _⟩ := O1_1
  obtain ⟨hz_c1_2, hg_c1_2, hf_c1_2_0, hf_c1_2_1, _⟩ := O1_2
  obtain ⟨hz_c1_3, hg_c1_3, hf_c1_3_0, hf_c1_3_1, hf_c1_3_2, hf_c1_3_3, hf_c1_3_4, hf_c1_3_5, hf_c1_3_6, hf_c1_3_7, _⟩ := O1_3
  try clear hf4_0_0
  try clear hf4_0_1
  try clear hf4_1_0
  try clear hf4_1_1
  try clear hf4_2_0
  try clear hf4_2_1
  try clear hf4_2_2
  try clear hf4_2_3
  try clear hf4_2_4
  try clear hf4_2_5
  try clear hf4_2_6
  try clear hf4_2_7
  try clear hg4_0
  try clear hg4_1
  try clear hg4_2
  try clear hz4_1
  try clear hz4_2
  go_wp2_with fail
  with_reducible refine (sin_w d (by omega) (by omega) _).mono ?_
  rintro e w5 ⟨rfl, hk5⟩
  refine kuse (b := b1_0) hk5 (by first | (simp; done) | (simp; omega) | omega) ?_
  intro ha hb
  have hz5_0 : b1_0 < w5.heap.size := by have := hk5.size; (try simp at this); omega
  have hn5_0 : ¬ b1_0 = w5.heap.size := by omega
  have hm5_0 : ¬ w5.heap.size = b1_0 := by omega
  have hf5_0_0 : w5.cell? ⟨b1_0, 0, none⟩ = some (.int .i64 (A0)) := by first | (rw [ha]; with_reducible assumption) | (simp (maxDischargeDepth := 7) [go_sem, ha]; done) | (rw [ha]; assumption) | (simp (maxDischargeDepth := 7) [go_sem, ha, *]; done)
  have hf5_0_1 : w5.cell? ⟨b1_0, 1, none⟩ = some (.int .i64 (A1)) := by first | (rw [ha]; with_reducible assumption) | (simp (maxDischargeDepth := 7) [go_sem, ha]; done) | (rw [ha]; assumption) | (simp (maxDischargeDepth := 7) [go_sem, ha, *]; done)
  have hf5_0_2 : w5.cell? ⟨b1_0, 2, none⟩ = some (.int .i64 (A2)) := by first | (rw [ha]; with_reducible assumption) | (simp (maxDischargeDepth := 7) [go_sem, ha]; done) | (rw [ha]; assumption) | (simp (maxDischargeDepth := 7) [go_sem, ha, *]; done)
  try have hg5_0 : ∀ o, w5.frozen? ⟨b1_0, o, none⟩ = false := by intro o; first | (simp (maxDischargeDepth := 7) [go_sem, hb]; done) | (rw [hb]; simp (maxDischargeDepth := 7) [go_sem, *]; done)
  clear ha hb
  refine kuse (b := w.heap.size) hk5 (by first | (simp; done) | (simp; omega) | omega) ?_
  intro ha hb
  have hz5_1 : w.heap.size < w5.heap.size := by have := hk5.size; (try simp at this); omega
  have hn5_1 : ¬ w.heap.size = w5.heap.size := by omega
  have hm5_1 : ¬ w5.heap.size = w.heap.size := by omega
  have hf5_1_0 : w5.cell? ⟨w.heap.size, 0, none⟩ = some (.int .i64 la) := by first | (rw [ha]; with_reducible assumption) | (simp (maxDischargeDepth := 7) [go_sem, ha]; done) | (rw [ha]; assumption) | (simp (maxDischargeDepth := 7) [go_sem, ha, *]; done)
  have hf5_1_1 : w5.cell? ⟨w.heap.size, 1, none⟩ = some (.int .i64 lo) := by first | (rw [ha]; with_reducible assumption) | (simp (maxDischargeDepth := 7) [go_sem, ha]; done) | (rw [ha]; assumption) | (simp (maxDischargeDepth := 7) [go_sem, ha, *]; done)
  try have hg5_1 : ∀ o, w5.frozen? ⟨w.heap.size, o, none⟩ = false := by intro o; first | (simp (maxDischargeDepth := 7) [go_sem, hb]; done) | (rw [hb]; simp (maxDischargeDepth := 7) [go_sem, *]; done)
  clear ha hb
  refine kuse (b := w.heap.size + 1) hk5 (by first | (simp; done) | (simp; omega) | omega) ?_
  intro ha hb
  have hz5_2 : w.heap.size + 1 < w5.heap.size := by have := hk5.size; (try simp at this); omega
  have hn5_2 : ¬ w.heap.size + 1 = w5.heap.size := by omega
  have hm5_2 : ¬ w5.heap.size = w.heap.size + 1 := by omega
  have hf5_2_0 : w5.cell? ⟨w.heap.size + 1, 0, none⟩ = some (.int .i64 (0)) := by first | (rw [ha]; with_reducible assumption) | (simp (maxDischargeDepth := 7) [go_sem, ha]; done) | (rw [ha]; assumption) | (simp (maxDischargeDepth := 7) [go_sem, ha, *]; done)
  have hf5_2_1 : w5.cell? ⟨w.heap.size + 1, 1, none⟩ = some (.int .i64 (0)) := by first | (rw [ha]; with_reducible assumption) | (simp (maxDischargeDepth := 7) [go_sem, ha]; done) | (rw [ha]; assumption) | (simp (maxDischargeDepth := 7) [go_sem, ha, *]; done)
  try have hg5_2 : ∀ o, w5.frozen? ⟨w.heap.size + 1, o, none⟩ = false := by intro o; first | (simp (maxDischargeDepth := 7) [go_sem, hb]; done) | (rw [hb]; simp (maxDischargeDepth := 7) [go_sem, *]; done)
  clear ha hb
  refine kuse (b := w2.heap.size) hk5 (by first | (simp; done) | (simp; omega) | omega) ?_
  intro ha hb
  have hz5_3 : w2.heap.size < w5.heap.size := by have := hk5.size; (try simp at this); omega
  have hn5_3 : ¬ w2.heap.size = w5.heap.size := by omega
  have hm5_3 : ¬ w5.heap.size = w2.heap.size := by omega
  have hf5_3_0 : w5.cell? ⟨w2.heap.size, 0, none⟩ = some (.int .i64 (sinV lo)) := by first | (rw [ha]; with_reducible assumption) | (simp (maxDischargeDepth := 7) [go_sem, ha]; done) | (rw [ha]; assumption) | (simp (maxDischargeDepth := 7) [go_sem, ha, *]; done)
  have hf5_3_1 : w5.cell? ⟨w2.heap.size, 1, none⟩ = some (.int .i64 (cosV lo)) := by first | (rw [ha]; with_reducible assumption) | (simp (maxDischargeDepth := 7) [go_sem, ha]; done) | (rw [ha]; assumption) | (simp (maxDischargeDepth := 7) [go_sem, ha, *]; done)
  have hf5_3_2 : w5.cell? ⟨w2.heap.size, 2, none⟩ = some (.int .i64 (fA la lo)) := by first | (rw [ha]; with_reducible assumption) | (simp (maxDischargeDepth := 7) [go_sem, ha]; done) | (rw [ha]; assumption) | (simp (maxDischargeDepth := 7) [go_sem, ha, *]; done)
  have hf5_3_3 : w5.cell? ⟨w2.heap.size, 3, none⟩ = some (.int .i64 (fB la lo)) := by first | (rw [ha]; with_reducible assumption) | (simp (maxDischargeDepth := 7) [go_sem, ha]; done) | (rw [ha]; assumption) | (simp (maxDischargeDepth := 7) [go_sem, ha, *]; done)
  have hf5_3_4 : w5.cell? ⟨w2.heap.size, 4, none⟩ = some (.int .i64 (cosV la)) := by first | (rw [ha]; with_reducible assumption) | (simp (maxDischargeDepth := 7) [go_sem, ha]; done) | (rw [ha]; assumption) | (simp (maxDischargeDepth := 7) [go_sem, ha, *]; done)
  have hf5_3_5 : w5.cell? ⟨w2.heap.size, 5, none⟩ = some (.int .i64 (uX la lo)) := by first | (rw [ha]; with_reducible assumption) | (simp (maxDischargeDepth := 7) [go_sem, ha]; done) | (rw [ha]; assumption) | (simp (maxDischargeDepth := 7) [go_sem, ha, *]; done)
  have hf5_3_6 : w5.cell? ⟨w2.heap.size, 6, none⟩ = some (.int .i64 (uY la lo)) := by first | (rw [ha]; with_reducible assumption) | (simp (maxDischargeDepth := 7) [go_sem, ha]; done) | (rw [ha]; assumption) | (simp (maxDischargeDepth := 7) [go_sem, ha, *]; done)
  have hf5_3_7 : w5.cell? ⟨w2.heap.size, 7, none⟩ = some (.int .i64 (uZ la lo)) := by first | (rw [ha]; with_reducible assumption) | (simp (maxDischargeDepth := 7) [go_sem, ha]; done) | (rw [ha]; assumption) | (simp (maxDischargeDepth := 7) [go_sem, ha, *]; done)
  try have hg5_3 : ∀ o, w5.frozen? ⟨w2.heap.size, o, none⟩ = false := by intro o; first | (simp (maxDischargeDepth := 7) [go_sem, hb]; done) | (rw [hb]; simp (maxDischargeDepth := 7) [go_sem, *]; done)
  clear ha hb
  try clear hf_c1_0_0
  try clear hf_c1_0_1
  try clear hf_c1_0_2
  try clear hf_c1_1_0
  try clear hf_c1_1_1
  try clear hf_c1_2_0
  try clear hf_c1_2_1
  try clear hf_c1_3_0
  try clear hf_c1_3_1
  try clear hf_c1_3_2
  try clear hf_c1_3_3
  try clear hf_c1_3_4
  try clear hf_c1_3_5
  try clear hf_c1_3_6
  try clear hf_c1_3_7
  try clear hg_c1_0
  try clear hg_c1_1
  try clear hg_c1_2
  try clear hg_c1_3
  go_wp2_with fail
  with_reducible refine (cos_w d (by omega) (by omega) _).mono ?_
  rintro e w6 ⟨rfl, hk6⟩
  refine kuse (b := b1_0) hk6 (by first | (simp; done) | (simp; omega) | omega) ?_
  intro ha hb
  have hz6_0 : b1_0 < w6.heap.size := by have := hk6.size; (try simp at this); omega
  have hn6_0 : ¬ b1_0 = w6.heap.size := by omega
  have hm6_0 : ¬ w6.heap.size = b1_0 := by omega
  have hf6_0_0 : w6.cell? ⟨b1_0, 0, none⟩ = some (.int .i64 (A0)) := by first | (rw [ha]; with_reducible assumption) | (simp (maxDischargeDepth := 7) [go_sem, ha]; done) | (rw [ha]; assumption) | (simp (maxDischargeDepth := 7) [go_sem, ha, *]; done)
  have hf6_0_1 : w6.cell? ⟨b1_0, 1, none⟩ = some (.int .i64 (A1)) := by first | (rw [ha]; with_reducible assumption) | (simp (maxDischargeDepth := 7) [go_sem, ha]; done) | (rw [ha]; assumption) | (simp (maxDischargeDepth := 7) [go_sem, ha, *]; done)
  have hf6_0_2 : w6.cell? ⟨b1_0, 2, none⟩ = some (.int .i64 (A2)) := by first | (rw [ha]; with_reducible assumption) | (simp (maxDischargeDepth := 7) [go_sem, ha]; done) | (rw [ha]; assumption) | (simp (maxDischargeDepth := 7) [go_sem, ha, *]; done)
  try have hg6_0 : ∀ o, w6.frozen? ⟨b1_0, o, none⟩ = false := by intro o; first | (simp (maxDischargeDepth := 7) [go_sem, hb]; done) | (rw [hb]; simp (maxDischargeDepth := 7) [go_sem, *]; done)
  clear ha hb
  refine kuse (b := w.heap.size) hk6 (by first | (simp; done) | (simp; omega) | omega) ?_
  intro ha hb
  have hz6_1 : w.heap.size < w6.heap.size := by have := hk6.size; (try simp at this); omega
  have hn6_1 : ¬ w.heap.size = w6.heap.size := by omega
  have hm6_1 : ¬ w6.heap.size = w.heap.size := by omega
  have hf6_1_0 : w6.cell? ⟨w.heap.size, 0, none⟩ = some (.int .i64 la) := by first | (rw [ha]; with_reducible assumption) | (simp (maxDischargeDepth := 7) [go_sem, ha]; done) | (rw [ha]; assumption) | (simp (maxDischargeDepth := 7) [go_sem, ha, *]; done)
  have hf6_1_1 : w6.cell? ⟨w.heap.size, 1, none⟩ = some (.int .i64 lo) := by first | (rw [ha]; with_reducible assumption) | (simp (maxDischargeDepth := 7) [go_sem, ha]; done) | (rw [ha]; assumption) | (simp (maxDischargeDepth := 7) [go_sem, ha, *]; done)
  try have hg6_1 : ∀ o, w6.frozen? ⟨w.heap.size, o, none⟩ = false := by intro o; first | (simp (maxDischargeDepth := 7) [go_sem, hb]; done) | (rw [hb]; simp (maxDischargeDepth := 7) [go_sem, *]; done)
  clear ha hb
  refine kuse (b := w.heap.size + 1) hk6 (by first | (simp; done) | (simp; omega) | omega) ?_
  intro ha hb
  have hz6_2 : w.heap.size + 1 < w6.heap.size := by have := hk6.size; (try simp at this); omega
  have hn6_2 : ¬ w.heap.size + 1 = w6.heap.size := by omega
  have hm6_2 : ¬ w6.heap.size = w.heap.size + 1 := by omega
  have hf6_2_0 : w6.cell? ⟨w.heap.size + 1, 0, none⟩ = some (.int .i64 (0)) := by first | (rw [ha]; with_reducible assumption) | (simp (maxDischargeDepth := 7) [go_sem, ha]; done) | (rw [ha]; assumption) | (simp (maxDischargeDepth := 7) [go_sem, ha, *]; done)
  have hf6_2_1 : w6.cell? ⟨w.heap.size + 1, 1, none⟩ = some (.int .i64 (0)) := by first | (rw [ha]; with_reducible assumption) | (simp (maxDischargeDepth := 7) [go_sem, ha]; done) | (rw [ha]; assumption) | (simp (maxDischargeDepth := 7) [go_sem, ha, *]; done)
  try have hg6_2 : ∀ o, w6.frozen? ⟨w.heap.size + 1, o, none⟩ = false := by intro o; first | (simp (maxDischargeDepth := 7) [go_sem, hb]; done) | (rw [hb]; simp (maxDischargeDepth := 7) [go_sem, *]; done)
  clear ha hb
  refine kuse (b := w2.heap.size) hk6 (by first | (simp; done) | (simp; omega) | omega) ?_
  intro ha hb
  have hz6_3 : w2.heap.size < w6.heap.size := by have := hk6.size; (try simp at this); omega
  have hn6_3 : ¬ w2.heap.size = w6.heap.size := by omega
  have hm6_3 : ¬ w6.heap.size = w2.heap.size := by omega
  have hf6_3_0 : w6.cell? ⟨w2.heap.size, 0, none⟩ = some (.int .i64 (sinV lo)) := by first | (rw [ha]; with_reducible assumption) | (simp (maxDischargeDepth := 7) [go_sem, ha]; done) | (rw [ha]; assumption) | (simp (maxDischargeDepth := 7) [go_sem, ha, *]; done)
  have hf6_3_1 : w6.cell? ⟨w2.heap.size, 1, none⟩ = some (.int .i64 (cosV lo)) := by first | (rw [ha]; with_reducible assumption) | (simp (maxDischargeDepth := 7) [go_sem, ha]; done) | (rw [ha]; assumption) | (simp (maxDischargeDepth := 7) [go_sem, ha, *]; done)
  have hf6_3_2 : w6.cell? ⟨w2.heap.size, 2, none⟩ = some (.int .i64 (fA la lo)) := by first | (rw [ha]; with_reducible assumption) | (simp (maxDischargeDepth := 7) [go_sem, ha]; done) | (rw [ha]; assumption) | (simp (maxDischargeDepth := 7) [go_sem, ha, *]; done)
  have hf6_3_3 : w6.cell? ⟨w2.heap.size, 3, none⟩ = some (.int .i64 (fB la lo)) := by first | (rw [ha]; with_reducible assumption) | (simp (maxDischargeDepth := 7) [go_sem, ha]; done) | (rw [ha]; assumption) | (simp (maxDischargeDepth := 7) [go_sem, ha, *]; done)
  have hf6_3_4 : w6.cell? ⟨w2.heap.size, 4, none⟩ = some (.int .i64 (cosV la)) := by first | (rw [ha]; with_reducible assumption) | (simp (maxDischargeDepth := 7) [go_sem, ha]; done) | (rw [ha]; assumption) | (simp (maxDischargeDepth := 7) [go_sem, ha, *]; done)
  have hf6_3_5 : w6.cell? ⟨w2.heap.size, 5, none⟩ = some (.int .i64 (uX la lo)) := by first | (rw [ha]; with_reducible assumption) | (simp (maxDischargeDepth := 7) [go_sem, ha]; done) | (rw [ha]; assumption) | (simp (maxDischargeDepth := 7) [go_sem, ha, *]; done)
  have hf6_3_6 : w6.cell? ⟨w2.heap.size, 6, none⟩ = some (.int .i64 (uY la lo)) := by first | (rw [ha]; with_reducible assumption) | (simp (maxDischargeDepth := 7) [go_sem, ha]; done) | (rw [ha]; assumption) | (simp (maxDischargeDepth := 7) [go_sem, ha, *]; done)
  have hf6_3_7 : w6.cell? ⟨w2.heap.size, 7, none⟩ = some (.int .i64 (uZ la lo)) := by first | (rw [ha]; with_reducible assumption) | (simp (maxDischargeDepth := 7) [go_sem, ha]; done) | (rw [ha]; assumption) | (simp (maxDischargeDepth := 7) [go_sem, ha, *]; done)
  try have hg6_3 : ∀ o, w6.frozen? ⟨w2.heap.size, o, none⟩ = false := by intro o; first | (simp (maxDischargeDepth := 7) [go_sem, hb]; done) | (rw [hb]; simp (maxDischargeDepth := 7) [go_sem, *]; done)
  clear ha hb
  try clear hf5_0_0
  try clear hf5_0_1
  try clear hf5_0_2
  try clear hf5_1_0
  try clear hf5_1_1
  try clear hf5_2_0
  try clear hf5_2_1
  try clear hf5_3_0
  try clear hf5_3_1
  try clear hf5_3_2
  try clear hf5_3_3
  try clear hf5_3_4
  try clear hf5_3_5
  try clear hf5_3_6
  try clear hf5_3_7
  try clear hg5_0
  try clear hg5_1
  try clear hg5_2
  try clear hg5_3
  try clear hz5_1
  try clear hz5_2
  try clear hz5_3
  go_wp2_with fail
  refine wp_loop_rounds 4 ?_
  rw [rounds_succ]
  go_wp2_with fail
  go_region_held3 (fun W => W.cell? ⟨w2.heap.size, 5, none⟩ = some (.int .i64 (uX la lo)) ∧ W.cell? ⟨b1_0, 0, none⟩ = some (.int .i64 A0)) (first | (go_keep; done) | (simp (maxDischargeDepth := 9) [*, World.cell?_alloc_some, World.cell?_setCell_far]; done) | (simp (maxDischargeDepth := 9) [go_sem, *]; done)) (first | (go_at_call 44; with_reducible refine (sround_w _ (by omega) (by omega) _).mono ?_; rintro e w' ⟨rfl, rfl⟩))
  all_goals go_wp2_with fail
  rw [rounds_succ]
  go_wp2_with fail
  go_region_held3 (fun W => W.cell? ⟨w2.heap.size, 6, none⟩ = some (.int .i64 (uY la lo)) ∧ W.cell? ⟨b1_0, 1, none⟩ = some (.int .i64 A1)) (first | (go_keep; done) | (simp (maxDischargeDepth := 9) [*, World.cell?_alloc_some, World.cell?_setCell_far]; done) | (simp (maxDischargeDepth := 9) [go_sem, *]; done)) (first | (go_at_call 44; with_reducible refine (sround_w _ (by omega) (by omega) _).mono ?_; rintro e w' ⟨rfl, rfl⟩))
  all_goals go_wp2_with fail
  rw [rounds_succ]
  go_wp2_with fail
  go_region_held3 (fun W => W.cell? ⟨w2.heap.size, 7, none⟩ = some (.int .i64 (uZ la lo)) ∧ W.cell? ⟨b1_0, 2, none⟩ = some (.int .i64 A2)) (first | (go_keep; done) | (simp (maxDischargeDepth := 9) [*, World.cell?_alloc_some, World.cell?_setCell_far]; done) | (simp (maxDischargeDepth := 9) [go_sem, *]; done)) (first | (go_at_call 44; with_reducible refine (sround_w _ (by omega) (by omega) _).mono ?_; rintro e w' ⟨rfl, rfl⟩))
  all_goals go_wp2_with fail
  rw [rounds_succ]
  go_wp2_with fail
  with_reducible refine (position_w V0 V1 V2 (by omega) (by omega) (by omega) (by omega) (by omega) (by omega) _).mono ?_
  rintro e w7 ⟨rfl, hk7⟩
  refine kuse (b := b1_0) hk7 (by first | (simp; done) | (simp; omega) | omega) ?_
  intro ha hb
  have hz7_0 : b1_0 < w7.heap.size := by have := hk7.size; (try simp at this); omega
  have hn7_0 : ¬ b1_0 = w7.heap.size := by omega
  have hm7_0 : ¬ w7.heap.size = b1_0 := by omega
  have hf7_0_0 : w7.cell? ⟨b1_0, 0, none⟩ = some (.int .i64 (A0)) := by first | (rw [ha]; with_reducible assumption) | (simp (maxDischargeDepth := 7) [go_sem, ha]; done) | (rw [ha]; assumption) | (simp (maxDischargeDepth := 7) [go_sem, ha, *]; done)
  have hf7_0_1 : w7.cell? ⟨b1_0, 1, none⟩ = some (.int .i64 (A1)) := by first | (rw [ha]; with_reducible assumption) | (simp (maxDischargeDepth := 7) [go_sem, ha]; done) | (rw [ha]; assumption) | (simp (maxDischargeDepth := 7) [go_sem, ha, *]; done)
  have hf7_0_2 : w7.cell? ⟨b1_0, 2, none⟩ = some (.int .i64 (A2)) := by first | (rw [ha]; with_reducible assumption) | (simp (maxDischargeDepth := 7) [go_sem, ha]; done) | (rw [ha]; assumption) | (simp (maxDischargeDepth := 7) [go_sem, ha, *]; done)
  try have hg7_0 : ∀ o, w7.frozen? ⟨b1_0, o, none⟩ = false := by intro o; first | (simp (maxDischargeDepth := 7) [go_sem, hb]; done) | (rw [hb]; simp (maxDischargeDepth := 7) [go_sem, *]; done)
  clear ha hb
  refine kuse (b := w.heap.size) hk7 (by first | (simp; done) | (simp; omega) | omega) ?_
  intro ha hb
  have hz7_1 : w.heap.size < w7.heap.size := by have := hk7.size; (try simp at this); omega
  have hn7_1 : ¬ w.heap.size = w7.heap.size := by omega
  have hm7_1 : ¬ w7.heap.size = w.heap.size := by omega
  have hf7_1_0 : w7.cell? ⟨w.heap.size, 0, none⟩ = some (.int .i64 la) := by first | (rw [ha]; with_reducible assumption) | (simp (maxDischargeDepth := 7) [go_sem, ha]; done) | (rw [ha]; assumption) | (simp (maxDischargeDepth := 7) [go_sem, ha, *]; done)
  have hf7_1_1 : w7.cell? ⟨w.heap.size, 1, none⟩ = some (.int .i64 lo) := by first | (rw [ha]; with_reducible assumption) | (simp (maxDischargeDepth := 7) [go_sem, ha]; done) | (rw [ha]; assumption) | (simp (maxDischargeDepth := 7) [go_sem, ha, *]; done)
  try have hg7_1 : ∀ o, w7.frozen? ⟨w.heap.size, o, none⟩ = false := by intro o; first | (simp (maxDischargeDepth := 7) [go_sem, hb]; done) | (rw [hb]; simp (maxDischargeDepth := 7) [go_sem, *]; done)
  clear ha hb
  refine kuse (b := w.heap.size + 1) hk7 (by first | (simp; done) | (simp; omega) | omega) ?_
  intro ha hb
  have hz7_2 : w.heap.size + 1 < w7.heap.size := by have := hk7.size; (try simp at this); omega
  have hn7_2 : ¬ w.heap.size + 1 = w7.heap.size := by omega
  have hm7_2 : ¬ w7.heap.size = w.heap.size + 1 := by omega
  have hf7_2_0 : w7.cell? ⟨w.heap.size + 1, 0, none⟩ = some (.int .i64 (0)) := by first | (rw [ha]; with_reducible assumption) | (simp (maxDischargeDepth := 7) [go_sem, ha]; done) | (rw [ha]; assumption) | (simp (maxDischargeDepth := 7) [go_sem, ha, *]; done)
  have hf7_2_1 : w7.cell? ⟨w.heap.size + 1, 1, none⟩ = some (.int .i64 (0)) := by first | (rw [ha]; with_reducible assumption) | (simp (maxDischargeDepth := 7) [go_sem, ha]; done) | (rw [ha]; assumption) | (simp (maxDischargeDepth := 7) [go_sem, ha, *]; done)
  try have hg7_2 : ∀ o, w7.frozen? ⟨w.heap.size + 1, o, none⟩ = false := by intro o; first | (simp (maxDischargeDepth := 7) [go_sem, hb]; done) | (rw [hb]; simp (maxDischargeDepth := 7) [go_sem, *]; done)
  clear ha hb
  refine kuse (b := w2.heap.size) hk7 (by first | (simp; done) | (simp; omega) | omega) ?_
  intro ha hb
  have hz7_3 : w2.heap.size < w7.heap.size := by have := hk7.size; (try simp at this); omega
  have hn7_3 : ¬ w2.heap.size = w7.heap.size := by omega
  have hm7_3 : ¬ w7.heap.size = w2.heap.size := by omega
  have hf7_3_0 : w7.cell? ⟨w2.heap.size, 0, none⟩ = some (.int .i64 (sinV lo)) := by first | (rw [ha]; with_reducible assumption) | (simp (maxDischargeDepth := 7) [go_sem, ha]; done) | (rw [ha]; assumption) | (simp (maxDischargeDepth := 7) [go_sem, ha, *]; done)
  have hf7_3_1 : w7.cell? ⟨w2.heap.size, 1, none⟩ = some (.int .i64 (cosV lo)) := by first | (rw [ha]; with_reducible assumption) | (simp (maxDischargeDepth := 7) [go_sem, ha]; done) | (rw [ha]; assumption) | (simp (maxDischargeDepth := 7) [go_sem, ha, *]; done)
  have hf7_3_2 : w7.cell? ⟨w2.heap.size, 2, none⟩ = some (.int .i64 (fA la lo)) := by first | (rw [ha]; with_reducible assumption) | (simp (maxDischargeDepth := 7) [go_sem, ha]; done) | (rw [ha]; assumption) | (simp (maxDischargeDepth := 7) [go_sem, ha, *]; done)
  have hf7_3_3 : w7.cell? ⟨w2.heap.size, 3, none⟩ = some (.int .i64 (fB la lo)) := by first | (rw [ha]; with_reducible assumption) | (simp (maxDischargeDepth := 7) [go_sem, ha]; done) | (rw [ha]; assumption) | (simp (maxDischargeDepth := 7) [go_sem, ha, *]; done)
  have hf7_3_4 : w7.cell? ⟨w2.heap.size, 4, none⟩ = some (.int .i64 (cosV la)) := by first | (rw [ha]; with_reducible assumption) | (simp (maxDischargeDepth := 7) [go_sem, ha]; done) | (rw [ha]; assumption) | (simp (maxDischargeDepth := 7) [go_sem, ha, *]; done)
  have hf7_3_5 : w7.cell? ⟨w2.heap.size, 5, none⟩ = some (.int .i64 (uX la lo)) := by first | (rw [ha]; with_reducible assumption) | (simp (maxDischargeDepth := 7) [go_sem, ha]; done) | (rw [ha]; assumption) | (simp (maxDischargeDepth := 7) [go_sem, ha, *]; done)
  have hf7_3_6 : w7.cell? ⟨w2.heap.size, 6, none⟩ = some (.int .i64 (uY la lo)) := by first | (rw [ha]; with_reducible assumption) | (simp (maxDischargeDepth := 7) [go_sem, ha]; done) | (rw [ha]; assumption) | (simp (maxDischargeDepth := 7) [go_sem, ha, *]; done)
  have hf7_3_7 : w7.cell? ⟨w2.heap.size, 7, none⟩ = some (.int .i64 (uZ la lo)) := by first | (rw [ha]; with_reducible assumption) | (simp (maxDischargeDepth := 7) [go_sem, ha]; done) | (rw [ha]; assumption) | (simp (maxDischargeDepth := 7) [go_sem, ha, *]; done)
  try have hg7_3 : ∀ o, w7.frozen? ⟨w2.heap.size, o, none⟩ = false := by intro o; first | (simp (maxDischargeDepth := 7) [go_sem, hb]; done) | (rw [hb]; simp (maxDischargeDepth := 7) [go_sem, *]; done)
  clear ha hb
  try clear hf6_0_0
  try clear hf6_0_1
  try clear hf6_0_2
  try clear hf6_1_0
  try clear hf6_1_1
  try clear hf6_2_0
  try clear hf6_2_1
  try clear hf6_3_0
  try clear hf6_3_1
  try clear hf6_3_2
  try clear hf6_3_3
  try clear hf6_3_4
  try clear hf6_3_5
  try clear hf6_3_6
  try clear hf6_3_7
  try clear hg6_0
  try clear hg6_1
  try clear hg6_2
  try clear hg6_3
  try clear hz6_1
  try clear hz6_2
  try clear hz6_3
  go_wp2_with fail
  all_goals exact bodyPost_ret (v := .tuple #[.agg #[.int .i64 (psLa V0 V1 V2), .int .i64 (psLo V0 V1 V2)], .int .i64 (psE V0 V1 V2)]) (by first | (simp [results, Try.results23, go_sem]; done) | (simp (maxDischargeDepth := 7) [results, Try.results23, go_sem, *]; done)) rfl ⟨rfl, (by repeat (first | with_reducible exact Kept.refl _ | with_reducible assumption | with_reducible refine Kept.setCell ?_ (by first | (simp; done) | (simp; omega) | omega) _ | with_reducible refine Kept.alloc ?_ _ | with_reducible refine Kept.drewN ?_ _ | with_reducible refine Kept.drew ?_ | with_reducible refine Kept.trans ?_ (by with_reducible assumption) | with_reducible refine Kept.dr ?_ (by with_reducible assumption)))⟩
set_option maxHeartbeats 2000000 in
set_option maxRecDepth 100000 in
theorem along_badp (la lo : Int) (h : la < -32400000 ∨ 32400000 < la ∨ lo ≤ -64800000 ∨ 64800000 < lo) (c d : Int) (w : World) : Calls Try.prog 23 #[.agg #[.int .i64 la, .int .i64 lo], .int .i64 c, .int .i64 d] w fun e w' => e = .returned (.tuple #[.agg #[.int .i64 0, .int .i64 0], .int .i64 1]) ∧ Kept w w' := by
  go_enter Try.func23, Try.ntmps23
  go_wp2_with fail
  with_reducible refine (valid_bad la lo h _).mono ?_
  rintro e w1 ⟨rfl, hk1⟩
  refine kuse (b := w.heap.size) hk1 (by first | (simp; done) | (simp; omega) | omega) ?_
  intro ha hb
  have hz1_0 : w.heap.size < w1.heap.size := by have := hk1.size; (try simp at this); omega
  have hn1_0 : ¬ w.heap.size = w1.heap.size := by omega
  have hm1_0 : ¬ w1.heap.size = w.heap.size := by omega
  have hf1_0_0 : w1.cell? ⟨w.heap.size, 0, none⟩ = some (.int .i64 la) := by first | (rw [ha]; with_reducible assumption) | (simp (maxDischargeDepth := 7) [go_sem, ha]; done) | (rw [ha]; assumption) | (simp (maxDischargeDepth := 7) [go_sem, ha, *]; done)
  have hf1_0_1 : w1.cell? ⟨w.heap.size, 1, none⟩ = some (.int .i64 lo) := by first | (rw [ha]; with_reducible assumption) | (simp (maxDischargeDepth := 7) [go_sem, ha]; done) | (rw [ha]; assumption) | (simp (maxDischargeDepth := 7) [go_sem, ha, *]; done)
  try have hg1_0 : ∀ o, w1.frozen? ⟨w.heap.size, o, none⟩ = false := by intro o; first | (simp (maxDischargeDepth := 7) [go_sem, hb]; done) | (rw [hb]; simp (maxDischargeDepth := 7) [go_sem, *]; done)
  clear ha hb
  refine kuse (b := w.heap.size + 1) hk1 (by first | (simp; done) | (simp; omega) | omega) ?_
  intro ha hb
  have hz1_1 : w.heap.size + 1 < w1.heap.size := by have := hk1.size; (try simp at this); omega
  have hn1_1 : ¬ w.heap.size + 1 = w1.heap.size := by omega
  have hm1_1 : ¬ w1.heap.size = w.heap.size + 1 := by omega
  have hf1_1_0 : w1.cell? ⟨w.heap.size + 1, 0, none⟩ = some (.int .i64 (0)) := by first | (rw [ha]; with_reducible assumption) | (simp (maxDischargeDepth := 7) [go_sem, ha]; done) | (rw [ha]; assumption) | (simp (maxDischargeDepth := 7) [go_sem, ha, *]; done)
  have hf1_1_1 : w1.cell? ⟨w.heap.size + 1, 1, none⟩ = some (.int .i64 (0)) := by first | (rw [ha]; with_reducible assumption) | (simp (maxDischargeDepth := 7) [go_sem, ha]; done) | (rw [ha]; assumption) | (simp (maxDischargeDepth := 7) [go_sem, ha, *]; done)
  try have hg1_1 : ∀ o, w1.frozen? ⟨w.heap.size + 1, o, none⟩ = false := by intro o; first | (simp (maxDischargeDepth := 7) [go_sem, hb]; done) | (rw [hb]; simp (maxDischargeDepth := 7) [go_sem, *]; done)
  clear ha hb
  go_wp2_with fail
  all_goals exact bodyPost_ret (v := .tuple #[.agg #[.int .i64 0, .int .i64 0], .int .i64 1]) (by first | (simp [results, Try.results23, go_sem]; done) | (simp (maxDischargeDepth := 7) [results, Try.results23, go_sem, *]; done)) rfl ⟨rfl, (by repeat (first | with_reducible exact Kept.refl _ | with_reducible assumption | with_reducible refine Kept.setCell ?_ (by first | (simp; done) | (simp; omega) | omega) _ | with_reducible refine Kept.alloc ?_ _ | with_reducible refine Kept.drewN ?_ _ | with_reducible refine Kept.drew ?_ | with_reducible refine Kept.trans ?_ (by with_reducible assumption) | with_reducible refine Kept.dr ?_ (by with_reducible assumption)))⟩
set_option maxHeartbeats 2000000 in
set_option maxRecDepth 100000 in
theorem along_lo (la lo : Int) (la0 : -32400000 ≤ la) (la1 : la ≤ 32400000) (lo0 : -64800000 < lo) (lo1 : lo ≤ 64800000) (c d : Int) (h : d < 0) (w : World) : Calls Try.prog 23 #[.agg #[.int .i64 la, .int .i64 lo], .int .i64 c, .int .i64 d] w fun e w' => e = .returned (.tuple #[.agg #[.int .i64 0, .int .i64 0], .int .i64 2]) ∧ Kept w w' := by
  go_enter Try.func23, Try.ntmps23
  go_wp2_with fail
  with_reducible refine (valid_ok la lo la0 la1 lo0 lo1 _).mono ?_
  rintro e w1 ⟨rfl, hk1⟩
  refine kuse (b := w.heap.size) hk1 (by first | (simp; done) | (simp; omega) | omega) ?_
  intro ha hb
  have hz1_0 : w.heap.size < w1.heap.size := by have := hk1.size; (try simp at this); omega
  have hn1_0 : ¬ w.heap.size = w1.heap.size := by omega
  have hm1_0 : ¬ w1.heap.size = w.heap.size := by omega
  have hf1_0_0 : w1.cell? ⟨w.heap.size, 0, none⟩ = some (.int .i64 la) := by first | (rw [ha]; with_reducible assumption) | (simp (maxDischargeDepth := 7) [go_sem, ha]; done) | (rw [ha]; assumption) | (simp (maxDischargeDepth := 7) [go_sem, ha, *]; done)
  have hf1_0_1 : w1.cell? ⟨w.heap.size, 1, none⟩ = some (.int .i64 lo) := by first | (rw [ha]; with_reducible assumption) | (simp (maxDischargeDepth := 7) [go_sem, ha]; done) | (rw [ha]; assumption) | (simp (maxDischargeDepth := 7) [go_sem, ha, *]; done)
  try have hg1_0 : ∀ o, w1.frozen? ⟨w.heap.size, o, none⟩ = false := by intro o; first | (simp (maxDischargeDepth := 7) [go_sem, hb]; done) | (rw [hb]; simp (maxDischargeDepth := 7) [go_sem, *]; done)
  clear ha hb
  refine kuse (b := w.heap.size + 1) hk1 (by first | (simp; done) | (simp; omega) | omega) ?_
  intro ha hb
  have hz1_1 : w.heap.size + 1 < w1.heap.size := by have := hk1.size; (try simp at this); omega
  have hn1_1 : ¬ w.heap.size + 1 = w1.heap.size := by omega
  have hm1_1 : ¬ w1.heap.size = w.heap.size + 1 := by omega
  have hf1_1_0 : w1.cell? ⟨w.heap.size + 1, 0, none⟩ = some (.int .i64 (0)) := by first | (rw [ha]; with_reducible assumption) | (simp (maxDischargeDepth := 7) [go_sem, ha]; done) | (rw [ha]; assumption) | (simp (maxDischargeDepth := 7) [go_sem, ha, *]; done)
  have hf1_1_1 : w1.cell? ⟨w.heap.size + 1, 1, none⟩ = some (.int .i64 (0)) := by first | (rw [ha]; with_reducible assumption) | (simp (maxDischargeDepth := 7) [go_sem, ha]; done) | (rw [ha]; assumption) | (simp (maxDischargeDepth := 7) [go_sem, ha, *]; done)
  try have hg1_1 : ∀ o, w1.frozen? ⟨w.heap.size + 1, o, none⟩ = false := by intro o; first | (simp (maxDischargeDepth := 7) [go_sem, hb]; done) | (rw [hb]; simp (maxDischargeDepth := 7) [go_sem, *]; done)
  clear ha hb
  go_wp2_with fail
  all_goals exact bodyPost_ret (v := .tuple #[.agg #[.int .i64 0, .int .i64 0], .int .i64 2]) (by first | (simp [results, Try.results23, go_sem]; done) | (simp (maxDischargeDepth := 7) [results, Try.results23, go_sem, *]; done)) rfl ⟨rfl, (by repeat (first | with_reducible exact Kept.refl _ | with_reducible assumption | with_reducible refine Kept.setCell ?_ (by first | (simp; done) | (simp; omega) | omega) _ | with_reducible refine Kept.alloc ?_ _ | with_reducible refine Kept.drewN ?_ _ | with_reducible refine Kept.drew ?_ | with_reducible refine Kept.trans ?_ (by with_reducible assumption) | with_reducible refine Kept.dr ?_ (by with_reducible assumption)))⟩
set_option maxHeartbeats 2000000 in
set_option maxRecDepth 100000 in
theorem along_hi (la lo : Int) (la0 : -32400000 ≤ la) (la1 : la ≤ 32400000) (lo0 : -64800000 < lo) (lo1 : lo ≤ 64800000) (c d : Int) (h : 64800000 < d) (w : World) : Calls Try.prog 23 #[.agg #[.int .i64 la, .int .i64 lo], .int .i64 c, .int .i64 d] w fun e w' => e = .returned (.tuple #[.agg #[.int .i64 0, .int .i64 0], .int .i64 2]) ∧ Kept w w' := by
  go_enter Try.func23, Try.ntmps23
  go_wp2_with fail
  with_reducible refine (valid_ok la lo la0 la1 lo0 lo1 _).mono ?_
  rintro e w1 ⟨rfl, hk1⟩
  refine kuse (b := w.heap.size) hk1 (by first | (simp; done) | (simp; omega) | omega) ?_
  intro ha hb
  have hz1_0 : w.heap.size < w1.heap.size := by have := hk1.size; (try simp at this); omega
  have hn1_0 : ¬ w.heap.size = w1.heap.size := by omega
  have hm1_0 : ¬ w1.heap.size = w.heap.size := by omega
  have hf1_0_0 : w1.cell? ⟨w.heap.size, 0, none⟩ = some (.int .i64 la) := by first | (rw [ha]; with_reducible assumption) | (simp (maxDischargeDepth := 7) [go_sem, ha]; done) | (rw [ha]; assumption) | (simp (maxDischargeDepth := 7) [go_sem, ha, *]; done)
  have hf1_0_1 : w1.cell? ⟨w.heap.size, 1, none⟩ = some (.int .i64 lo) := by first | (rw [ha]; with_reducible assumption) | (simp (maxDischargeDepth := 7) [go_sem, ha]; done) | (rw [ha]; assumption) | (simp (maxDischargeDepth := 7) [go_sem, ha, *]; done)
  try have hg1_0 : ∀ o, w1.frozen? ⟨w.heap.size, o, none⟩ = false := by intro o; first | (simp (maxDischargeDepth := 7) [go_sem, hb]; done) | (rw [hb]; simp (maxDischargeDepth := 7) [go_sem, *]; done)
  clear ha hb
  refine kuse (b := w.heap.size + 1) hk1 (by first | (simp; done) | (simp; omega) | omega) ?_
  intro ha hb
  have hz1_1 : w.heap.size + 1 < w1.heap.size := by have := hk1.size; (try simp at this); omega
  have hn1_1 : ¬ w.heap.size + 1 = w1.heap.size := by omega
  have hm1_1 : ¬ w1.heap.size = w.heap.size + 1 := by omega
  have hf1_1_0 : w1.cell? ⟨w.heap.size + 1, 0, none⟩ = some (.int .i64 (0)) := by first | (rw [ha]; with_reducible assumption) | (simp (maxDischargeDepth := 7) [go_sem, ha]; done) | (rw [ha]; assumption) | (simp (maxDischargeDepth := 7) [go_sem, ha, *]; done)
  have hf1_1_1 : w1.cell? ⟨w.heap.size + 1, 1, none⟩ = some (.int .i64 (0)) := by first | (rw [ha]; with_reducible assumption) | (simp (maxDischargeDepth := 7) [go_sem, ha]; done) | (rw [ha]; assumption) | (simp (maxDischargeDepth := 7) [go_sem, ha, *]; done)
  try have hg1_1 : ∀ o, w1.frozen? ⟨w.heap.size + 1, o, none⟩ = false := by intro o; first | (simp (maxDischargeDepth := 7) [go_sem, hb]; done) | (rw [hb]; simp (maxDischargeDepth := 7) [go_sem, *]; done)
  clear ha hb
  go_wp2_with fail
  all_goals exact bodyPost_ret (v := .tuple #[.agg #[.int .i64 0, .int .i64 0], .int .i64 2]) (by first | (simp [results, Try.results23, go_sem]; done) | (simp (maxDischargeDepth := 7) [results, Try.results23, go_sem, *]; done)) rfl ⟨rfl, (by repeat (first | with_reducible exact Kept.refl _ | with_reducible assumption | with_reducible refine Kept.setCell ?_ (by first | (simp; done) | (simp; omega) | omega) _ | with_reducible refine Kept.alloc ?_ _ | with_reducible refine Kept.drewN ?_ _ | with_reducible refine Kept.drew ?_ | with_reducible refine Kept.trans ?_ (by with_reducible assumption) | with_reducible refine Kept.dr ?_ (by with_reducible assumption)))⟩

end Go.Proofs.Ytoilodcadngcoaa
