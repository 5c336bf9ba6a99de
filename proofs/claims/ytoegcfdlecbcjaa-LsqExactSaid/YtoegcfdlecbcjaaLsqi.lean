/-
  Own contracts: the law's examples.
-/
import Derived.Test.YtoegcfdlecbcjaaLsqh
import Derived.WalkKit
import Derived.ProofKit
import Derived.OpenShut
import Derived.WalkLawsBesides
import Derived.WalkSpells
import Derived.Lib.Hide
import Derived.Deep.DeepCutAuto
import Derived.Deep.CutBlock
import Derived.Deep.QuietTactic
import Derived.BigQuiet
import Derived.Handy
import Derived.StillTailTactics
import Derived.IntWalk
import Derived.LoopN
import Derived.Deep.RegionHeld3
namespace Go.Proofs.Ytoegcfdlecbcjaa
open Go.ChangeShapes Go.WideShapes Go.ChangeAt Go.RowKit
set_option linter.unusedVariables false
set_option linter.unusedSimpArgs false
def AM1 : Ms := ⟨fun i => if i = 0 then 1 else 1, fun i => if i = 0 then 256 else 0, fun i => if i = 0 then 0 else 256, fun i => if i = 0 then 25600 else 51200, fun i => if i = 0 then 0 else 0, fun i => if i = 0 then 1 else 1⟩
theorem asl1 {W : World} {b : Nat} (o : OwnB W b [.int .i64 1, .int .i64 256, .int .i64 0, .int .i64 25600, .int .i64 0, .int .i64 1, .int .i64 1, .int .i64 0, .int .i64 256, .int .i64 51200, .int .i64 0, .int .i64 1]) : SlM W (some ⟨b, 0, none⟩) 2 b 0 AM1 := by
  obtain ⟨hz, hg, c0, c1, c2, c3, c4, c5, c6, c7, c8, c9, c10, c11, _⟩ := o
  simp only [Nat.zero_add, Nat.reduceAdd] at c0 c1 c2 c3 c4 c5 c6 c7 c8 c9 c10 c11
  refine ⟨fun _ => ⟨rfl, hz⟩, ?_, ?_, ?_, ?_, ?_, ?_⟩
  · intro i hi
    match i, hi with
    | 0, _ => exact c0
    | 1, _ => exact c6
  · intro i hi
    match i, hi with
    | 0, _ => exact c1
    | 1, _ => exact c7
  · intro i hi
    match i, hi with
    | 0, _ => exact c2
    | 1, _ => exact c8
  · intro i hi
    match i, hi with
    | 0, _ => exact c3
    | 1, _ => exact c9
  · intro i hi
    match i, hi with
    | 0, _ => exact c4
    | 1, _ => exact c10
  · intro i hi
    match i, hi with
    | 0, _ => exact c5
    | 1, _ => exact c11
def AM2 : Ms := ⟨fun i => if i = 0 then 1 else if i = 1 then 2 else 3, fun i => if i = 0 then 1 else if i = 1 then 1 else 0, fun i => if i = 0 then 0 else if i = 1 then 0 else 1, fun i => if i = 0 then 10 else if i = 1 then 20 else 0, fun i => if i = 0 then 0 else if i = 1 then 0 else 0, fun i => if i = 0 then 1 else if i = 1 then 3 else 1⟩
theorem asl2 {W : World} {b : Nat} (o : OwnB W b [.int .i64 1, .int .i64 1, .int .i64 0, .int .i64 10, .int .i64 0, .int .i64 1, .int .i64 2, .int .i64 1, .int .i64 0, .int .i64 20, .int .i64 0, .int .i64 3, .int .i64 3, .int .i64 0, .int .i64 1, .int .i64 0, .int .i64 0, .int .i64 1]) : SlM W (some ⟨b, 0, none⟩) 3 b 0 AM2 := by
  obtain ⟨hz, hg, c0, c1, c2, c3, c4, c5, c6, c7, c8, c9, c10, c11, c12, c13, c14, c15, c16, c17, _⟩ := o
  simp only [Nat.zero_add, Nat.reduceAdd] at c0 c1 c2 c3 c4 c5 c6 c7 c8 c9 c10 c11 c12 c13 c14 c15 c16 c17
  refine ⟨fun _ => ⟨rfl, hz⟩, ?_, ?_, ?_, ?_, ?_, ?_⟩
  · intro i hi
    match i, hi with
    | 0, _ => exact c0
    | 1, _ => exact c6
    | 2, _ => exact c12
  · intro i hi
    match i, hi with
    | 0, _ => exact c1
    | 1, _ => exact c7
    | 2, _ => exact c13
  · intro i hi
    match i, hi with
    | 0, _ => exact c2
    | 1, _ => exact c8
    | 2, _ => exact c14
  · intro i hi
    match i, hi with
    | 0, _ => exact c3
    | 1, _ => exact c9
    | 2, _ => exact c15
  · intro i hi
    match i, hi with
    | 0, _ => exact c4
    | 1, _ => exact c10
    | 2, _ => exact c16
  · intro i hi
    match i, hi with
    | 0, _ => exact c5
    | 1, _ => exact c11
    | 2, _ => exact c17
def AM3 : Ms := ⟨fun i => if i = 0 then 1 else 2, fun i => if i = 0 then 1 else (-2), fun i => if i = 0 then 2 else (-4), fun i => if i = 0 then 0 else 0, fun i => if i = 0 then 0 else 0, fun i => if i = 0 then 1 else 1⟩
theorem asl3 {W : World} {b : Nat} (o : OwnB W b [.int .i64 1, .int .i64 1, .int .i64 2, .int .i64 0, .int .i64 0, .int .i64 1, .int .i64 2, .int .i64 (-2), .int .i64 (-4), .int .i64 0, .int .i64 0, .int .i64 1]) : SlM W (some ⟨b, 0, none⟩) 2 b 0 AM3 := by
  obtain ⟨hz, hg, c0, c1, c2, c3, c4, c5, c6, c7, c8, c9, c10, c11, _⟩ := o
  simp only [Nat.zero_add, Nat.reduceAdd] at c0 c1 c2 c3 c4 c5 c6 c7 c8 c9 c10 c11
  refine ⟨fun _ => ⟨rfl, hz⟩, ?_, ?_, ?_, ?_, ?_, ?_⟩
  · intro i hi
    match i, hi with
    | 0, _ => exact c0
    | 1, _ => exact c6
  · intro i hi
    match i, hi with
    | 0, _ => exact c1
    | 1, _ => exact c7
  · intro i hi
    match i, hi with
    | 0, _ => exact c2
    | 1, _ => exact c8
  · intro i hi
    match i, hi with
    | 0, _ => exact c3
    | 1, _ => exact c9
  · intro i hi
    match i, hi with
    | 0, _ => exact c4
    | 1, _ => exact c10
  · intro i hi
    match i, hi with
    | 0, _ => exact c5
    | 1, _ => exact c11
theorem ae1 : AM1.sE 2 = 0 := by decide +kernel
theorem ae2 : AM2.sE 3 = 0 := by decide +kernel
theorem ae3 : AM3.sE 2 = 14 := by decide +kernel
theorem av1 : wh (AM1.X 2) = 0 ∧ wl (AM1.X 2) = 429496729600 ∧ wh (AM1.Y 2) = 0 ∧ wl (AM1.Y 2) = 858993459200 ∧ AM1.det 2 = 4294967296 ∧ AM1.px 2 = 100 ∧ AM1.py 2 = 200 := by decide +kernel
theorem av2 : wh (AM2.X 3) = 0 ∧ wl (AM2.X 3) = 70 ∧ wh (AM2.Y 3) = 0 ∧ wl (AM2.Y 3) = 0 ∧ AM2.det 3 = 4 ∧ AM2.px 3 = 18 ∧ AM2.py 3 = 0 := by decide +kernel
theorem av3 : wh (AM2.num 3) = 0 ∧ wl (AM2.num 3) = 300 := by decide +kernel
theorem as1 {W : World} {b : Nat} (h : SlM W (some ⟨b, 0, none⟩) 2 b 0 AM1) : Calls Try.prog 18 #[.slice (some ⟨b, 0, none⟩) 2 2] W fun e w' => e = .returned (.tuple #[.agg #[.int .i64 0, .int .u64 429496729600, .int .i64 0, .int .u64 858993459200, .int .i64 4294967296, .int .i64 100, .int .i64 200], .int .i64 0]) ∧ Kept W w' := by
  have g := solve_good _ 2 2 b 0 AM1 (by unfold maxLen; omega) ae1 W h
  obtain ⟨v1, v2, v3, v4, v5, v6, v7⟩ := av1
  rw [v1, v2, v3, v4, v5, v6, v7] at g
  exact g
theorem as2 {W : World} {b : Nat} (h : SlM W (some ⟨b, 0, none⟩) 3 b 0 AM2) : Calls Try.prog 18 #[.slice (some ⟨b, 0, none⟩) 3 3] W fun e w' => e = .returned (.tuple #[.agg #[.int .i64 0, .int .u64 70, .int .i64 0, .int .u64 0, .int .i64 4, .int .i64 18, .int .i64 0], .int .i64 0]) ∧ Kept W w' := by
  have g := solve_good _ 3 3 b 0 AM2 (by unfold maxLen; omega) ae2 W h
  obtain ⟨v1, v2, v3, v4, v5, v6, v7⟩ := av2
  rw [v1, v2, v3, v4, v5, v6, v7] at g
  exact g
theorem al2 {W : World} {b : Nat} (h : SlM W (some ⟨b, 0, none⟩) 3 b 0 AM2) : Calls Try.prog 24 #[.slice (some ⟨b, 0, none⟩) 3 3] W fun e w' => e = .returned (.tuple #[.agg #[.int .i64 0, .int .u64 300], .int .i64 4, .int .i64 0]) ∧ Kept W w' := by
  have g := least_ok _ 3 3 b 0 AM2 (by unfold maxLen; omega) ae2 W h
  rw [av3.1, av3.2, av2.2.2.2.2.1] at g
  exact g
theorem as3 {W : World} {b : Nat} (h : SlM W (some ⟨b, 0, none⟩) 2 b 0 AM3) : Calls Try.prog 18 #[.slice (some ⟨b, 0, none⟩) 2 2] W fun e w' => e = .returned (.tuple #[.agg #[.int .i64 0, .int .u64 0, .int .i64 0, .int .u64 0, .int .i64 0, .int .i64 0, .int .i64 0], .int .i64 14]) ∧ Kept W w' := by
  have g := solve_err _ 2 2 b 0 AM3 (by unfold maxLen; omega) (by rw [ae3]; decide) W h
  rw [ae3] at g
  exact g
theorem ao429496729600 (w : World) : Calls Try.prog 31 #[.int .i64 429496729600] w fun e w' => e = .returned (.agg #[.int .i64 0, .int .u64 429496729600]) ∧ Kept w w' := by
  have g := of_w 429496729600 (by omega) (by omega) w
  rw [show wh 429496729600 = 0 by decide, show wl 429496729600 = 429496729600 by decide] at g
  exact g
theorem ao70 (w : World) : Calls Try.prog 31 #[.int .i64 70] w fun e w' => e = .returned (.agg #[.int .i64 0, .int .u64 70]) ∧ Kept w w' := by
  have g := of_w 70 (by omega) (by omega) w
  rw [show wh 70 = 0 by decide, show wl 70 = 70 by decide] at g
  exact g
theorem ao300 (w : World) : Calls Try.prog 31 #[.int .i64 300] w fun e w' => e = .returned (.agg #[.int .i64 0, .int .u64 300]) ∧ Kept w w' := by
  have g := of_w 300 (by omega) (by omega) w
  rw [show wh 300 = 0 by decide, show wl 300 = 300 by decide] at g
  exact g
set_option maxHeartbeats 4000000 in
set_option maxRecDepth 100000 in
theorem awake_w  (w : World) : Calls Try.prog 12 #[] w fun e w' => e = .returned (.bool true) ∧ Kept w w' := by
  go_enter Try.func12, Try.ntmps12
  go_wp2_with fail
  refine (as1 (asl1 (own_alloc w [.int .i64 1, .int .i64 256, .int .i64 0, .int .i64 25600, .int .i64 0, .int .i64 1, .int .i64 1, .int .i64 0, .int .i64 256, .int .i64 51200, .int .i64 0, .int .i64 1] 44))).mono ?_
  rintro e w1 ⟨rfl, hk1⟩
  go_wp2_with fail
  have H2 : SlM ((w1.alloc (.cells #[.int .i64 0, .int .u64 429496729600, .int .i64 0, .int .u64 858993459200, .int .i64 4294967296, .int .i64 100, .int .i64 200] 38)).alloc (.cells #[.int .i64 1, .int .i64 1, .int .i64 0, .int .i64 10, .int .i64 0, .int .i64 1, .int .i64 2, .int .i64 1, .int .i64 0, .int .i64 20, .int .i64 0, .int .i64 3, .int .i64 3, .int .i64 0, .int .i64 1, .int .i64 0, .int .i64 0, .int .i64 1] 44)) (some ⟨w1.heap.size + 1, 0, none⟩) 3 (w1.heap.size + 1) 0 AM2 := asl2 (own_allocE _ [.int .i64 1, .int .i64 1, .int .i64 0, .int .i64 10, .int .i64 0, .int .i64 1, .int .i64 2, .int .i64 1, .int .i64 0, .int .i64 20, .int .i64 0, .int .i64 3, .int .i64 3, .int .i64 0, .int .i64 1, .int .i64 0, .int .i64 0, .int .i64 1] 44 _ (by simp))
  have H2' := Lib.hid H2
  clear H2
  refine (as2 H2'.out).mono ?_
  rintro e w2 ⟨rfl, hk2⟩
  refine kuz (b := w1.heap.size) hk2 (by first | (simp; done) | (simp; omega) | omega) ?_
  intro ha hb hz2_0 hn2_0 hm2_0
  have hf2_0_0 : w2.cell? ⟨w1.heap.size, 0, none⟩ = some (.int .i64 0) := (ha _).trans (by first | with_reducible assumption | (simp (maxDischargeDepth := 7) [go_sem]; done) | (simp (maxDischargeDepth := 7) [go_sem, *]; done))
  have hf2_0_1 : w2.cell? ⟨w1.heap.size, 1, none⟩ = some (.int .u64 429496729600) := (ha _).trans (by first | with_reducible assumption | (simp (maxDischargeDepth := 7) [go_sem]; done) | (simp (maxDischargeDepth := 7) [go_sem, *]; done))
  have hf2_0_2 : w2.cell? ⟨w1.heap.size, 2, none⟩ = some (.int .i64 0) := (ha _).trans (by first | with_reducible assumption | (simp (maxDischargeDepth := 7) [go_sem]; done) | (simp (maxDischargeDepth := 7) [go_sem, *]; done))
  have hf2_0_3 : w2.cell? ⟨w1.heap.size, 3, none⟩ = some (.int .u64 858993459200) := (ha _).trans (by first | with_reducible assumption | (simp (maxDischargeDepth := 7) [go_sem]; done) | (simp (maxDischargeDepth := 7) [go_sem, *]; done))
  have hf2_0_4 : w2.cell? ⟨w1.heap.size, 4, none⟩ = some (.int .i64 4294967296) := (ha _).trans (by first | with_reducible assumption | (simp (maxDischargeDepth := 7) [go_sem]; done) | (simp (maxDischargeDepth := 7) [go_sem, *]; done))
  have hf2_0_5 : w2.cell? ⟨w1.heap.size, 5, none⟩ = some (.int .i64 100) := (ha _).trans (by first | with_reducible assumption | (simp (maxDischargeDepth := 7) [go_sem]; done) | (simp (maxDischargeDepth := 7) [go_sem, *]; done))
  have hf2_0_6 : w2.cell? ⟨w1.heap.size, 6, none⟩ = some (.int .i64 200) := (ha _).trans (by first | with_reducible assumption | (simp (maxDischargeDepth := 7) [go_sem]; done) | (simp (maxDischargeDepth := 7) [go_sem, *]; done))
  try have hg2_0 : ∀ o, w2.frozen? ⟨w1.heap.size, o, none⟩ = false := by intro o; rw [hb]; first | (simp (maxDischargeDepth := 7) [go_sem]; done) | (simp (maxDischargeDepth := 7) [go_sem, *]; done)
  clear ha hb
  go_wp2_with fail
  have H3 := Lib.hid (H2'.out.kept hk2)
  clear H2'
  refine (al2 (H3.out.kept (Kept.alloc (Kept.refl _) _))).mono ?_
  rintro e w3 ⟨rfl, hk3⟩
  refine kuz (b := w1.heap.size) hk3 (by first | (simp; done) | (simp; omega) | omega) ?_
  intro ha hb hz3_0 hn3_0 hm3_0
  have hf3_0_0 : w3.cell? ⟨w1.heap.size, 0, none⟩ = some (.int .i64 0) := (ha _).trans (by first | with_reducible assumption | (simp (maxDischargeDepth := 7) [go_sem]; done) | (simp (maxDischargeDepth := 7) [go_sem, *]; done))
  have hf3_0_1 : w3.cell? ⟨w1.heap.size, 1, none⟩ = some (.int .u64 429496729600) := (ha _).trans (by first | with_reducible assumption | (simp (maxDischargeDepth := 7) [go_sem]; done) | (simp (maxDischargeDepth := 7) [go_sem, *]; done))
  have hf3_0_2 : w3.cell? ⟨w1.heap.size, 2, none⟩ = some (.int .i64 0) := (ha _).trans (by first | with_reducible assumption | (simp (maxDischargeDepth := 7) [go_sem]; done) | (simp (maxDischargeDepth := 7) [go_sem, *]; done))
  have hf3_0_3 : w3.cell? ⟨w1.heap.size, 3, none⟩ = some (.int .u64 858993459200) := (ha _).trans (by first | with_reducible assumption | (simp (maxDischargeDepth := 7) [go_sem]; done) | (simp (maxDischargeDepth := 7) [go_sem, *]; done))
  have hf3_0_4 : w3.cell? ⟨w1.heap.size, 4, none⟩ = some (.int .i64 4294967296) := (ha _).trans (by first | with_reducible assumption | (simp (maxDischargeDepth := 7) [go_sem]; done) | (simp (maxDischargeDepth := 7) [go_sem, *]; done))
  have hf3_0_5 : w3.cell? ⟨w1.heap.size, 5, none⟩ = some (.int .i64 100) := (ha _).trans (by first | with_reducible assumption | (simp (maxDischargeDepth := 7) [go_sem]; done) | (simp (maxDischargeDepth := 7) [go_sem, *]; done))
  have hf3_0_6 : w3.cell? ⟨w1.heap.size, 6, none⟩ = some (.int .i64 200) := (ha _).trans (by first | with_reducible assumption | (simp (maxDischargeDepth := 7) [go_sem]; done) | (simp (maxDischargeDepth := 7) [go_sem, *]; done))
  try have hg3_0 : ∀ o, w3.frozen? ⟨w1.heap.size, o, none⟩ = false := by intro o; rw [hb]; first | (simp (maxDischargeDepth := 7) [go_sem]; done) | (simp (maxDischargeDepth := 7) [go_sem, *]; done)
  clear ha hb
  refine kuz (b := w2.heap.size) hk3 (by first | (simp; done) | (simp; omega) | omega) ?_
  intro ha hb hz3_1 hn3_1 hm3_1
  have hf3_1_0 : w3.cell? ⟨w2.heap.size, 0, none⟩ = some (.int .i64 0) := (ha _).trans (by first | with_reducible assumption | (simp (maxDischargeDepth := 7) [go_sem]; done) | (simp (maxDischargeDepth := 7) [go_sem, *]; done))
  have hf3_1_1 : w3.cell? ⟨w2.heap.size, 1, none⟩ = some (.int .u64 70) := (ha _).trans (by first | with_reducible assumption | (simp (maxDischargeDepth := 7) [go_sem]; done) | (simp (maxDischargeDepth := 7) [go_sem, *]; done))
  have hf3_1_2 : w3.cell? ⟨w2.heap.size, 2, none⟩ = some (.int .i64 0) := (ha _).trans (by first | with_reducible assumption | (simp (maxDischargeDepth := 7) [go_sem]; done) | (simp (maxDischargeDepth := 7) [go_sem, *]; done))
  have hf3_1_3 : w3.cell? ⟨w2.heap.size, 3, none⟩ = some (.int .u64 0) := (ha _).trans (by first | with_reducible assumption | (simp (maxDischargeDepth := 7) [go_sem]; done) | (simp (maxDischargeDepth := 7) [go_sem, *]; done))
  have hf3_1_4 : w3.cell? ⟨w2.heap.size, 4, none⟩ = some (.int .i64 4) := (ha _).trans (by first | with_reducible assumption | (simp (maxDischargeDepth := 7) [go_sem]; done) | (simp (maxDischargeDepth := 7) [go_sem, *]; done))
  have hf3_1_5 : w3.cell? ⟨w2.heap.size, 5, none⟩ = some (.int .i64 18) := (ha _).trans (by first | with_reducible assumption | (simp (maxDischargeDepth := 7) [go_sem]; done) | (simp (maxDischargeDepth := 7) [go_sem, *]; done))
  have hf3_1_6 : w3.cell? ⟨w2.heap.size, 6, none⟩ = some (.int .i64 0) := (ha _).trans (by first | with_reducible assumption | (simp (maxDischargeDepth := 7) [go_sem]; done) | (simp (maxDischargeDepth := 7) [go_sem, *]; done))
  try have hg3_1 : ∀ o, w3.frozen? ⟨w2.heap.size, o, none⟩ = false := by intro o; rw [hb]; first | (simp (maxDischargeDepth := 7) [go_sem]; done) | (simp (maxDischargeDepth := 7) [go_sem, *]; done)
  clear ha hb
  try clear hf2_0_0
  try clear hf2_0_1
  try clear hf2_0_2
  try clear hf2_0_3
  try clear hf2_0_4
  try clear hf2_0_5
  try clear hf2_0_6
  try clear hg2_0
  go_wp2_with fail
  refine (as3 (asl3 (own_allocE (w3.alloc (.cells #[.int .i64 0, .int .u64 300] 34)) [.int .i64 1, .int .i64 1, .int .i64 2, .int .i64 0, .int .i64 0, .int .i64 1, .int .i64 2, .int .i64 (-2), .int .i64 (-4), .int .i64 0, .int .i64 0, .int .i64 1] 44 (w3.heap.size + 1) (by simp)))).mono ?_
  rintro e w4 ⟨rfl, hk4⟩
  refine kuz (b := w1.heap.size) hk4 (by first | (simp; done) | (simp; omega) | omega) ?_
  intro ha hb hz4_0 hn4_0 hm4_0
  have hf4_0_0 : w4.cell? ⟨w1.heap.size, 0, none⟩ = some (.int .i64 0) := (ha _).trans (by first | with_reducible assumption | (simp (maxDischargeDepth := 7) [go_sem]; done) | (simp (maxDischargeDepth := 7) [go_sem, *]; done))
  have hf4_0_1 : w4.cell? ⟨w1.heap.size, 1, none⟩ = some (.int .u64 429496729600) := (ha _).trans (by first | with_reducible assumption | (simp (maxDischargeDepth := 7) [go_sem]; done) | (simp (maxDischargeDepth := 7) [go_sem, *]; done))
  have hf4_0_2 : w4.cell? ⟨w1.heap.size, 2, none⟩ = some (.int .i64 0) := (ha _).trans (by first | with_reducible assumption | (simp (maxDischargeDepth := 7) [go_sem]; done) | (simp (maxDischargeDepth := 7) [go_sem, *]; done))
  have hf4_0_3 : w4.cell? ⟨w1.heap.size, 3, none⟩ = some (.int .u64 858993459200) := (ha _).trans (by first | with_reducible assumption | (simp (maxDischargeDepth := 7) [go_sem]; done) | (simp (maxDischargeDepth := 7) [go_sem, *]; done))
  have hf4_0_4 : w4.cell? ⟨w1.heap.size, 4, none⟩ = some (.int .i64 4294967296) := (ha _).trans (by first | with_reducible assumption | (simp (maxDischargeDepth := 7) [go_sem]; done) | (simp (maxDischargeDepth := 7) [go_sem, *]; done))
  have hf4_0_5 : w4.cell? ⟨w1.heap.size, 5, none⟩ = some (.int .i64 100) := (ha _).trans (by first | with_reducible assumption | (simp (maxDischargeDepth := 7) [go_sem]; done) | (simp (maxDischargeDepth := 7) [go_sem, *]; done))
  have hf4_0_6 : w4.cell? ⟨w1.heap.size, 6, none⟩ = some (.int .i64 200) := (ha _).trans (by first | with_reducible assumption | (simp (maxDischargeDepth := 7) [go_sem]; done) | (simp (maxDischargeDepth := 7) [go_sem, *]; done))
  try have hg4_0 : ∀ o, w4.frozen? ⟨w1.heap.size, o, none⟩ = false := by intro o; rw [hb]; first | (simp (maxDischargeDepth := 7) [go_sem]; done) | (simp (maxDischargeDepth := 7) [go_sem, *]; done)
  clear ha hb
  refine kuz (b := w2.heap.size) hk4 (by first | (simp; done) | (simp; omega) | omega) ?_
  intro ha hb hz4_1 hn4_1 hm4_1
  have hf4_1_0 : w4.cell? ⟨w2.heap.size, 0, none⟩ = some (.int .i64 0) := (ha _).trans (by first | with_reducible assumption | (simp (maxDischargeDepth := 7) [go_sem]; done) | (simp (maxDischargeDepth := 7) [go_sem, *]; done))
  have hf4_1_1 : w4.cell? ⟨w2.heap.size, 1, none⟩ = some (.int .u64 70) := (ha _).trans (by first | with_reducible assumption | (simp (maxDischargeDepth := 7) [go_sem]; done) | (simp (maxDischargeDepth := 7) [go_sem, *]; done))
  have hf4_1_2 : w4.cell? ⟨w2.heap.size, 2, none⟩ = some (.int .i64 0) := (ha _).trans (by first | with_reducible assumption | (simp (maxDischargeDepth := 7) [go_sem]; done) | (simp (maxDischargeDepth := 7) [go_sem, *]; done))
  have hf4_1_3 : w4.cell? ⟨w2.heap.size, 3, none⟩ = some (.int .u64 0) := (ha _).trans (by first | with_reducible assumption | (simp (maxDischargeDepth := 7) [go_sem]; done) | (simp (maxDischargeDepth := 7) [go_sem, *]; done))
  have hf4_1_4 : w4.cell? ⟨w2.heap.size, 4, none⟩ = some (.int .i64 4) := (ha _).trans (by first | with_reducible assumption | (simp (maxDischargeDepth := 7) [go_sem]; done) | (simp (maxDischargeDepth := 7) [go_sem, *]; done))
  have hf4_1_5 : w4.cell? ⟨w2.heap.size, 5, none⟩ = some (.int .i64 18) := (ha _).trans (by first | with_reducible assumption | (simp (maxDischargeDepth := 7) [go_sem]; done) | (simp (maxDischargeDepth := 7) [go_sem, *]; done))
  have hf4_1_6 : w4.cell? ⟨w2.heap.size, 6, none⟩ = some (.int .i64 0) := (ha _).trans (by first | with_reducible assumption | (simp (maxDischargeDepth := 7) [go_sem]; done) | (simp (maxDischargeDepth := 7) [go_sem, *]; done))
  try have hg4_1 : ∀ o, w4.frozen? ⟨w2.heap.size, o, none⟩ = false := by intro o; rw [hb]; first | (simp (maxDischargeDepth := 7) [go_sem]; done) | (simp (maxDischargeDepth := 7) [go_sem, *]; done)
  clear ha hb
  refine kuz (b := w3.heap.size) hk4 (by first | (simp; done) | (simp; omega) | omega) ?_
  intro ha hb hz4_2 hn4_2 hm4_2
  have hf4_2_0 : w4.cell? ⟨w3.heap.size, 0, none⟩ = some (.int .i64 0) := (ha _).trans (by first | with_reducible assumption | (simp (maxDischargeDepth := 7) [go_sem]; done) | (simp (maxDischargeDepth := 7) [go_sem, *]; done))
  have hf4_2_1 : w4.cell? ⟨w3.heap.size, 1, none⟩ = some (.int .u64 300) := (ha _).trans (by first | with_reducible assumption | (simp (maxDischargeDepth := 7) [go_sem]; done) | (simp (maxDischargeDepth := 7) [go_sem, *]; done))
  try have hg4_2 : ∀ o, w4.frozen? ⟨w3.heap.size, o, none⟩ = false := by intro o; rw [hb]; first | (simp (maxDischargeDepth := 7) [go_sem]; done) | (simp (maxDischargeDepth := 7) [go_sem, *]; done)
  clear ha hb
  try clear hf3_0_0
  try clear hf3_0_1
  try clear hf3_0_2
  try clear hf3_0_3
  try clear hf3_0_4
  try clear hf3_0_5
  try clear hf3_0_6
  try clear hf3_1_0
  try clear hf3_1_1
  try clear hf3_1_2
  try clear hf3_1_3
  try clear hf3_1_4
  try clear hf3_1_5
  try clear hf3_1_6
  try clear hg3_0
  try clear hg3_1
  try clear hz3_1
  go_wp2_with fail
  have hoo1 := Lib.hid ao429496729600
  have hoo2 := Lib.hid ao70
  have hoo3 := Lib.hid ao300
  go_region_held3 (fun W => W.cell? ⟨w1.heap.size, 0, none⟩ = some (.int .i64 0) ∧ W.cell? ⟨w1.heap.size, 1, none⟩ = some (.int .u64 429496729600) ∧ W.cell? ⟨w1.heap.size, 2, none⟩ = some (.int .i64 0) ∧ W.cell? ⟨w1.heap.size, 3, none⟩ = some (.int .u64 858993459200) ∧ W.cell? ⟨w1.heap.size, 4, none⟩ = some (.int .i64 4294967296) ∧ W.cell? ⟨w1.heap.size, 5, none⟩ = some (.int .i64 100) ∧ W.cell? ⟨w1.heap.size, 6, none⟩ = some (.int .i64 200) ∧ W.cell? ⟨w2.heap.size, 0, none⟩ = some (.int .i64 0) ∧ W.cell? ⟨w2.heap.size, 1, none⟩ = some (.int .u64 70) ∧ W.cell? ⟨w2.heap.size, 2, none⟩ = some (.int .i64 0) ∧ W.cell? ⟨w2.heap.size, 3, none⟩ = some (.int .u64 0) ∧ W.cell? ⟨w2.heap.size, 4, none⟩ = some (.int .i64 4) ∧ W.cell? ⟨w2.heap.size, 5, none⟩ = some (.int .i64 18) ∧ W.cell? ⟨w2.heap.size, 6, none⟩ = some (.int .i64 0) ∧ W.cell? ⟨w3.heap.size, 0, none⟩ = some (.int .i64 0) ∧ W.cell? ⟨w3.heap.size, 1, none⟩ = some (.int .u64 300)) (first | (go_keep; done) | (simp (maxDischargeDepth := 9) [*, World.cell?_alloc_some, World.cell?_setCell_far]; done) | (simp (maxDischargeDepth := 9) [go_sem, *]; done)) (first | (go_at_call 31; (first | with_reducible refine (hoo1.out _).mono ?_ | with_reducible refine (hoo2.out _).mono ?_ | with_reducible refine (hoo3.out _).mono ?_); rintro e w' ⟨rfl, hk⟩; have hz := hk.size; (try (refine kuse (b := w1.heap.size) hk (by first | (simp; done) | (simp; omega) | omega) ?_; intro hq0 hg0; have hy0 : w1.heap.size < w'.heap.size := (by (try simp at hz); omega); have hn0 : ¬ w1.heap.size = w'.heap.size := (by omega); have hm0 : ¬ w1.heap.size = w'.heap.size + 1 := (by omega); refine withF (p := w'.cell? ⟨w1.heap.size, 0, none⟩ = some (.int .i64 0)) (by first | (rw [hq0]; with_reducible assumption) | (simp (maxDischargeDepth := 7) [go_sem, hq0]; done) | (simp (maxDischargeDepth := 7) [go_sem, hq0, *]; done) | fail) ?_; intro ff00; refine withF (p := w'.cell? ⟨w1.heap.size, 1, none⟩ = some (.int .u64 429496729600)) (by first | (rw [hq0]; with_reducible assumption) | (simp (maxDischargeDepth := 7) [go_sem, hq0]; done) | (simp (maxDischargeDepth := 7) [go_sem, hq0, *]; done) | fail) ?_; intro ff01; refine withF (p := w'.cell? ⟨w1.heap.size, 2, none⟩ = some (.int .i64 0)) (by first | (rw [hq0]; with_reducible assumption) | (simp (maxDischargeDepth := 7) [go_sem, hq0]; done) | (simp (maxDischargeDepth := 7) [go_sem, hq0, *]; done) | fail) ?_; intro ff02; refine withF (p := w'.cell? ⟨w1.heap.size, 3, none⟩ = some (.int .u64 858993459200)) (by first | (rw [hq0]; with_reducible assumption) | (simp (maxDischargeDepth := 7) [go_sem, hq0]; done) | (simp (maxDischargeDepth := 7) [go_sem, hq0, *]; done) | fail) ?_; intro ff03; refine withF (p := w'.cell? ⟨w1.heap.size, 4, none⟩ = some (.int .i64 4294967296)) (by first | (rw [hq0]; with_reducible assumption) | (simp (maxDischargeDepth := 7) [go_sem, hq0]; done) | (simp (maxDischargeDepth := 7) [go_sem, hq0, *]; done) | fail) ?_; intro ff04; refine withF (p := w'.cell? ⟨w1.heap.size, 5, none⟩ = some (.int .i64 100)) (by first | (rw [hq0]; with_reducible assumption) | (simp (maxDischargeDepth := 7) [go_sem, hq0]; done) | (simp (maxDischargeDepth := 7) [go_sem, hq0, *]; done) | fail) ?_; intro ff05; refine withF (p := w'.cell? ⟨w1.heap.size, 6, none⟩ = some (.int .i64 200)) (by first | (rw [hq0]; with_reducible assumption) | (simp (maxDischargeDepth := 7) [go_sem, hq0]; done) | (simp (maxDischargeDepth := 7) [go_sem, hq0, *]; done) | fail) ?_; intro ff06)); (try (refine kuse (b := w2.heap.size) hk (by first | (simp; done) | (simp; omega) | omega) ?_; intro hq1 hg1; have hy1 : w2.heap.size < w'.heap.size := (by (try simp at hz); omega); have hn1 : ¬ w2.heap.size = w'.heap.size := (by omega); have hm1 : ¬ w2.heap.size = w'.heap.size + 1 := (by omega); refine withF (p := w'.cell? ⟨w2.heap.size, 0, none⟩ = some (.int .i64 0)) (by first | (rw [hq1]; with_reducible assumption) | (simp (maxDischargeDepth := 7) [go_sem, hq1]; done) | (simp (maxDischargeDepth := 7) [go_sem, hq1, *]; done) | fail) ?_; intro ff10; refine withF (p := w'.cell? ⟨w2.heap.size, 1, none⟩ = some (.int .u64 70)) (by first | (rw [hq1]; with_reducible assumption) | (simp (maxDischargeDepth := 7) [go_sem, hq1]; done) | (simp (maxDischargeDepth := 7) [go_sem, hq1, *]; done) | fail) ?_; intro ff11; refine withF (p := w'.cell? ⟨w2.heap.size, 2, none⟩ = some (.int .i64 0)) (by first | (rw [hq1]; with_reducible assumption) | (simp (maxDischargeDepth := 7) [go_sem, hq1]; done) | (simp (maxDischargeDepth := 7) [go_sem, hq1, *]; done) | fail) ?_; intro ff12; refine withF (p := w'.cell? ⟨w2.heap.size, 3, none⟩ = some (.int .u64 0)) (by first | (rw [hq1]; with_reducible assumption) | (simp (maxDischargeDepth := 7) [go_sem, hq1]; done) | (simp (maxDischargeDepth := 7) [go_sem, hq1, *]; done) | fail) ?_; intro ff13; refine withF (p := w'.cell? ⟨w2.heap.size, 4, none⟩ = some (.int .i64 4)) (by first | (rw [hq1]; with_reducible assumption) | (simp (maxDischargeDepth := 7) [go_sem, hq1]; done) | (simp (maxDischargeDepth := 7) [go_sem, hq1, *]; done) | fail) ?_; intro ff14; refine withF (p := w'.cell? ⟨w2.heap.size, 5, none⟩ = some (.int .i64 18)) (by first | (rw [hq1]; with_reducible assumption) | (simp (maxDischargeDepth := 7) [go_sem, hq1]; done) | (simp (maxDischargeDepth := 7) [go_sem, hq1, *]; done) | fail) ?_; intro ff15; refine withF (p := w'.cell? ⟨w2.heap.size, 6, none⟩ = some (.int .i64 0)) (by first | (rw [hq1]; with_reducible assumption) | (simp (maxDischargeDepth := 7) [go_sem, hq1]; done) | (simp (maxDischargeDepth := 7) [go_sem, hq1, *]; done) | fail) ?_; intro ff16)); (try (refine kuse (b := w3.heap.size) hk (by first | (simp; done) | (simp; omega) | omega) ?_; intro hq2 hg2; have hy2 : w3.heap.size < w'.heap.size := (by (try simp at hz); omega); have hn2 : ¬ w3.heap.size = w'.heap.size := (by omega); have hm2 : ¬ w3.heap.size = w'.heap.size + 1 := (by omega); refine withF (p := w'.cell? ⟨w3.heap.size, 0, none⟩ = some (.int .i64 0)) (by first | (rw [hq2]; with_reducible assumption) | (simp (maxDischargeDepth := 7) [go_sem, hq2]; done) | (simp (maxDischargeDepth := 7) [go_sem, hq2, *]; done) | fail) ?_; intro ff20; refine withF (p := w'.cell? ⟨w3.heap.size, 1, none⟩ = some (.int .u64 300)) (by first | (rw [hq2]; with_reducible assumption) | (simp (maxDischargeDepth := 7) [go_sem, hq2]; done) | (simp (maxDischargeDepth := 7) [go_sem, hq2, *]; done) | fail) ?_; intro ff21))))
  all_goals (try go_wp2_with fail)
  go_region_held3 (fun W => W.cell? ⟨w1.heap.size, 0, none⟩ = some (.int .i64 0) ∧ W.cell? ⟨w1.heap.size, 1, none⟩ = some (.int .u64 429496729600) ∧ W.cell? ⟨w1.heap.size, 2, none⟩ = some (.int .i64 0) ∧ W.cell? ⟨w1.heap.size, 3, none⟩ = some (.int .u64 858993459200) ∧ W.cell? ⟨w1.heap.size, 4, none⟩ = some (.int .i64 4294967296) ∧ W.cell? ⟨w1.heap.size, 5, none⟩ = some (.int .i64 100) ∧ W.cell? ⟨w1.heap.size, 6, none⟩ = some (.int .i64 200) ∧ W.cell? ⟨w2.heap.size, 0, none⟩ = some (.int .i64 0) ∧ W.cell? ⟨w2.heap.size, 1, none⟩ = some (.int .u64 70) ∧ W.cell? ⟨w2.heap.size, 2, none⟩ = some (.int .i64 0) ∧ W.cell? ⟨w2.heap.size, 3, none⟩ = some (.int .u64 0) ∧ W.cell? ⟨w2.heap.size, 4, none⟩ = some (.int .i64 4) ∧ W.cell? ⟨w2.heap.size, 5, none⟩ = some (.int .i64 18) ∧ W.cell? ⟨w2.heap.size, 6, none⟩ = some (.int .i64 0) ∧ W.cell? ⟨w3.heap.size, 0, none⟩ = some (.int .i64 0) ∧ W.cell? ⟨w3.heap.size, 1, none⟩ = some (.int .u64 300)) (first | (go_keep; done) | (simp (maxDischargeDepth := 9) [*, World.cell?_alloc_some, World.cell?_setCell_far]; done) | (simp (maxDischargeDepth := 9) [go_sem, *]; done)) (first | (go_at_call 31; (first | with_reducible refine (hoo1.out _).mono ?_ | with_reducible refine (hoo2.out _).mono ?_ | with_reducible refine (hoo3.out _).mono ?_); rintro e w' ⟨rfl, hk⟩; have hz := hk.size; (try (refine kuse (b := w1.heap.size) hk (by first | (simp; done) | (simp; omega) | omega) ?_; intro hq0 hg0; have hy0 : w1.heap.size < w'.heap.size := (by (try simp at hz); omega); have hn0 : ¬ w1.heap.size = w'.heap.size := (by omega); have hm0 : ¬ w1.heap.size = w'.heap.size + 1 := (by omega); refine withF (p := w'.cell? ⟨w1.heap.size, 0, none⟩ = some (.int .i64 0)) (by first | (rw [hq0]; with_reducible assumption) | (simp (maxDischargeDepth := 7) [go_sem, hq0]; done) | (simp (maxDischargeDepth := 7) [go_sem, hq0, *]; done) | fail) ?_; intro ff00; refine withF (p := w'.cell? ⟨w1.heap.size, 1, none⟩ = some (.int .u64 429496729600)) (by first | (rw [hq0]; with_reducible assumption) | (simp (maxDischargeDepth := 7) [go_sem, hq0]; done) | (simp (maxDischargeDepth := 7) [go_sem, hq0, *]; done) | fail) ?_; intro ff01; refine withF (p := w'.cell? ⟨w1.heap.size, 2, none⟩ = some (.int .i64 0)) (by first | (rw [hq0]; with_reducible assumption) | (simp (maxDischargeDepth := 7) [go_sem, hq0]; done) | (simp (maxDischargeDepth := 7) [go_sem, hq0, *]; done) | fail) ?_; intro ff02; refine withF (p := w'.cell? ⟨w1.heap.size, 3, none⟩ = some (.int .u64 858993459200)) (by first | (rw [hq0]; with_reducible assumption) | (simp (maxDischargeDepth := 7) [go_sem, hq0]; done) | (simp (maxDischargeDepth := 7) [go_sem, hq0, *]; done) | fail) ?_; intro ff03; refine withF (p := w'.cell? ⟨w1.heap.size, 4, none⟩ = some (.int .i64 4294967296)) (by first | (rw [hq0]; with_reducible assumption) | (simp (maxDischargeDepth := 7) [go_sem, hq0]; done) | (simp (maxDischargeDepth := 7) [go_sem, hq0, *]; done) | fail) ?_; intro ff04; refine withF (p := w'.cell? ⟨w1.heap.size, 5, none⟩ = some (.int .i64 100)) (by first | (rw [hq0]; with_reducible assumption) | (simp (maxDischargeDepth := 7) [go_sem, hq0]; done) | (simp (maxDischargeDepth := 7) [go_sem, hq0, *]; done) | fail) ?_; intro ff05; refine withF (p := w'.cell? ⟨w1.heap.size, 6, none⟩ = some (.int .i64 200)) (by first | (rw [hq0]; with_reducible assumption) | (simp (maxDischargeDepth := 7) [go_sem, hq0]; done) | (simp (maxDischargeDepth := 7) [go_sem, hq0, *]; done) | fail) ?_; intro ff06)); (try (refine kuse (b := w2.heap.size) hk (by first | (simp; done) | (simp; omega) | omega) ?_; intro hq1 hg1; have hy1 : w2.heap.size < w'.heap.size := (by (try simp at hz); omega); have hn1 : ¬ w2.heap.size = w'.heap.size := (by omega); have hm1 : ¬ w2.heap.size = w'.heap.size + 1 := (by omega); refine withF (p := w'.cell? ⟨w2.heap.size, 0, none⟩ = some (.int .i64 0)) (by first | (rw [hq1]; with_reducible assumption) | (simp (maxDischargeDepth := 7) [go_sem, hq1]; done) | (simp (maxDischargeDepth := 7) [go_sem, hq1, *]; done) | fail) ?_; intro ff10; refine withF (p := w'.cell? ⟨w2.heap.size, 1, none⟩ = some (.int .u64 70)) (by first | (rw [hq1]; with_reducible assumption) | (simp (maxDischargeDepth := 7) [go_sem, hq1]; done) | (simp (maxDischargeDepth := 7) [go_sem, hq1, *]; done) | fail) ?_; intro ff11; refine withF (p := w'.cell? ⟨w2.heap.size, 2, none⟩ = some (.int .i64 0)) (by first | (rw [hq1]; with_reducible assumption) | (simp (maxDischargeDepth := 7) [go_sem, hq1]; done) | (simp (maxDischargeDepth := 7) [go_sem, hq1, *]; done) | fail) ?_; intro ff12; refine withF (p := w'.cell? ⟨w2.heap.size, 3, none⟩ = some (.int .u64 0)) (by first | (rw [hq1]; with_reducible assumption) | (simp (maxDischargeDepth := 7) [go_sem, hq1]; done) | (simp (maxDischargeDepth := 7) [go_sem, hq1, *]; done) | fail) ?_; intro ff13; refine withF (p := w'.cell? ⟨w2.heap.size, 4, none⟩ = some (.int .i64 4)) (by first | (rw [hq1]; with_reducible assumption) | (simp (maxDischargeDepth := 7) [go_sem, hq1]; done) | (simp (maxDischargeDepth := 7) [go_sem, hq1, *]; done) | fail) ?_; intro ff14; refine withF (p := w'.cell? ⟨w2.heap.size, 5, none⟩ = some (.int .i64 18)) (by first | (rw [hq1]; with_reducible assumption) | (simp (maxDischargeDepth := 7) [go_sem, hq1]; done) | (simp (maxDischargeDepth := 7) [go_sem, hq1, *]; done) | fail) ?_; intro ff15; refine withF (p := w'.cell? ⟨w2.heap.size, 6, none⟩ = some (.int .i64 0)) (by first | (rw [hq1]; with_reducible assumption) | (simp (maxDischargeDepth := 7) [go_sem, hq1]; done) | (simp (maxDischargeDepth := 7) [go_sem, hq1, *]; done) | fail) ?_; intro ff16)); (try (refine kuse (b := w3.heap.size) hk (by first | (simp; done) | (simp; omega) | omega) ?_; intro hq2 hg2; have hy2 : w3.heap.size < w'.heap.size := (by (try simp at hz); omega); have hn2 : ¬ w3.heap.size = w'.heap.size := (by omega); have hm2 : ¬ w3.heap.size = w'.heap.size + 1 := (by omega); refine withF (p := w'.cell? ⟨w3.heap.size, 0, none⟩ = some (.int .i64 0)) (by first | (rw [hq2]; with_reducible assumption) | (simp (maxDischargeDepth := 7) [go_sem, hq2]; done) | (simp (maxDischargeDepth := 7) [go_sem, hq2, *]; done) | fail) ?_; intro ff20; refine withF (p := w'.cell? ⟨w3.heap.size, 1, none⟩ = some (.int .u64 300)) (by first | (rw [hq2]; with_reducible assumption) | (simp (maxDischargeDepth := 7) [go_sem, hq2]; done) | (simp (maxDischargeDepth := 7) [go_sem, hq2, *]; done) | fail) ?_; intro ff21))))
  all_goals (try go_wp2_with fail)
  all_goals (go_ret; exact ⟨rfl, (by repeat (first | with_reducible exact Kept.refl _ | with_reducible assumption | with_reducible refine Kept.setCell ?_ (by first | (simp; done) | (simp; omega) | omega) _ | with_reducible refine Kept.alloc ?_ _ | with_reducible refine Kept.drewN ?_ _ | with_reducible refine Kept.drew ?_ | with_reducible refine Kept.trans ?_ (by with_reducible assumption) | with_reducible refine Kept.dr ?_ (by with_reducible assumption)))⟩)
end Go.Proofs.Ytoegcfdlecbcjaa
