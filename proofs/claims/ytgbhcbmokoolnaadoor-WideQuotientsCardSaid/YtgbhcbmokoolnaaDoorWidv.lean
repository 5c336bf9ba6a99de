/-
  Own contracts: package wide: the examples of the chapter.
-/
import Derived.Test.YtgbhcbmokoolnaaDoorWide
import Derived.Test.YtgbhcbmokoolnaaDoorWidt
import Derived.Test.YtgbhcbmokoolnaaDoorWidu
import Derived.WalkKit
import Derived.ProofKit
import Derived.OpenShut
import Derived.WalkLawsBesides
import Derived.WalkSpells
import Derived.Lib.Hide
import Derived.Deep.DeepCutAuto
import Derived.Deep.CutBlock
import Derived.Deep.QuietTactic
import Derived.BigQuiet
import Derived.Handy
import Derived.StillTailTactics
import Derived.IntWalk
import Derived.LoopN
import Derived.Deep.RegionHeld3
namespace Go.Proofs.YtgbhcbmokoolnaaDoor
open Go.ChangeShapes Go.WideShapes Go.ChangeAt Go.RowKit
set_option linter.unusedVariables false
set_option linter.unusedSimpArgs false

set_option maxHeartbeats 2000000 in
set_option maxRecDepth 100000 in
theorem x_mul (w : World) : Calls Tryd.prog 29 #[.int .i64 (-9223372036854775808), .int .i64 (-9223372036854775808)] w fun e w' => e = .returned (.agg #[.int .i64 4611686018427387904, .int .u64 0]) ∧ Kept w w' := by
  have h := wmul_w (-9223372036854775808) (-9223372036854775808) (by omega) (by omega) (by omega) (by omega) w
  have e0 : wh ((-9223372036854775808) * (-9223372036854775808)) = 4611686018427387904 := by decide +kernel
  have e1 : wl ((-9223372036854775808) * (-9223372036854775808)) = 0 := by decide +kernel
  rw [e0] at h
  rw [e1] at h
  exact h
set_option maxHeartbeats 2000000 in
set_option maxRecDepth 100000 in
theorem x_add (w : World) : Calls Tryd.prog 14 #[.agg #[.int .i64 4611686018427387904, .int .u64 0], .agg #[.int .i64 4611686018427387904, .int .u64 0]] w fun e w' => e = .returned (.tuple #[.agg #[.int .i64 0, .int .u64 0], .bool false]) ∧ Kept w w' := by
  have h := wadd_w (85070591730234615865843651857942052864) (85070591730234615865843651857942052864) (by omega) (by omega) (by omega) (by omega) w
  have e0 : wh (85070591730234615865843651857942052864) = (4611686018427387904 : Int) := by decide +kernel
  have e1 : wl (85070591730234615865843651857942052864) = 0 := by decide +kernel
  have e2 : wval (85070591730234615865843651857942052864 + 85070591730234615865843651857942052864) = 0 := by decide +kernel
  have e3 : wh (0) = (0 : Int) := by decide +kernel
  have e4 : wl (0) = 0 := by decide +kernel
  have e5 : wfit (85070591730234615865843651857942052864 + 85070591730234615865843651857942052864) = false := by decide +kernel
  rw [e0] at h
  rw [e1] at h
  rw [e2] at h
  rw [e3] at h
  rw [e4] at h
  rw [e5] at h
  exact h
set_option maxHeartbeats 2000000 in
set_option maxRecDepth 100000 in
theorem x_abs (w : World) : Calls Tryd.prog 21 #[.agg #[.int .i64 (-9223372036854775808), .int .u64 0]] w fun e w' => e = .returned (.tuple #[.agg #[.int .i64 0, .int .u64 0], .bool false]) ∧ Kept w w' := by
  have h := wabs_w (-170141183460469231731687303715884105728) (by omega) (by omega) w
  have e0 : wh (-170141183460469231731687303715884105728) = (-9223372036854775808 : Int) := by decide +kernel
  have e1 : wl (-170141183460469231731687303715884105728) = 0 := by decide +kernel
  have e2 : wval (wmag (-170141183460469231731687303715884105728)) = 0 := by decide +kernel
  have e3 : wh 0 = 0 := by decide +kernel
  have e4 : wl 0 = 0 := by decide +kernel
  have e5 : wfit (wmag (-170141183460469231731687303715884105728)) = false := by decide +kernel
  rw [e0] at h
  rw [e1] at h
  rw [e2] at h
  rw [e3] at h
  rw [e4] at h
  rw [e5] at h
  exact h
set_option maxHeartbeats 2000000 in
set_option maxRecDepth 100000 in
theorem x_ofm7 (w : World) : Calls Tryd.prog 31 #[.int .i64 (-7)] w fun e w' => e = .returned (.agg #[.int .i64 (-1), .int .u64 18446744073709551609]) ∧ Kept w w' := by
  have h := of_w (-7) (by omega) (by omega) w
  have e0 : wh (-7) = (-1 : Int) := by decide +kernel
  have e1 : wl (-7) = 18446744073709551609 := by decide +kernel
  rw [e0] at h
  rw [e1] at h
  exact h
set_option maxHeartbeats 2000000 in
set_option maxRecDepth 100000 in
theorem x_ofm4 (w : World) : Calls Tryd.prog 31 #[.int .i64 (-4)] w fun e w' => e = .returned (.agg #[.int .i64 (-1), .int .u64 18446744073709551612]) ∧ Kept w w' := by
  have h := of_w (-4) (by omega) (by omega) w
  have e0 : wh (-4) = (-1 : Int) := by decide +kernel
  have e1 : wl (-4) = 18446744073709551612 := by decide +kernel
  rw [e0] at h
  rw [e1] at h
  exact h
set_option maxHeartbeats 2000000 in
set_option maxRecDepth 100000 in
theorem x_ofm3 (w : World) : Calls Tryd.prog 31 #[.int .i64 (-3)] w fun e w' => e = .returned (.agg #[.int .i64 (-1), .int .u64 18446744073709551613]) ∧ Kept w w' := by
  have h := of_w (-3) (by omega) (by omega) w
  have e0 : wh (-3) = (-1 : Int) := by decide +kernel
  have e1 : wl (-3) = 18446744073709551613 := by decide +kernel
  rw [e0] at h
  rw [e1] at h
  exact h
set_option maxHeartbeats 2000000 in
set_option maxRecDepth 100000 in
theorem x_of2 (w : World) : Calls Tryd.prog 31 #[.int .i64 2] w fun e w' => e = .returned (.agg #[.int .i64 0, .int .u64 2]) ∧ Kept w w' := by
  have h := of_w (2) (by omega) (by omega) w
  have e0 : wh (2) = (0 : Int) := by decide +kernel
  have e1 : wl (2) = 2 := by decide +kernel
  rw [e0] at h
  rw [e1] at h
  exact h
set_option maxHeartbeats 2000000 in
set_option maxRecDepth 100000 in
theorem x_Div (w : World) : Calls Tryd.prog 33 #[.agg #[.int .i64 (-1), .int .u64 18446744073709551609], .agg #[.int .i64 0, .int .u64 2]] w fun e w' => e = .returned (.tuple #[.agg #[.int .i64 (-1), .int .u64 18446744073709551612], .bool true]) ∧ Kept w w' := by
  have h := wDiv_w (-7) (2) (by omega) (by omega) (by omega) (by omega) w
  have e0 : wh (-7) = (-1 : Int) := by decide +kernel
  have e1 : wl (-7) = 18446744073709551609 := by decide +kernel
  have e2 : wh (2) = (0 : Int) := by decide +kernel
  have e3 : wl (2) = 2 := by decide +kernel
  have e4 : wqV 0 (-7) (2) = (-4) := by decide +kernel
  have e5 : wh ((-4)) = (-1 : Int) := by decide +kernel
  have e6 : wl ((-4)) = 18446744073709551612 := by decide +kernel
  have e7 : wqE 0 (-7) (2) = true := by decide +kernel
  rw [e0] at h
  rw [e1] at h
  rw [e2] at h
  rw [e3] at h
  rw [e4] at h
  rw [e5] at h
  rw [e6] at h
  rw [e7] at h
  exact h
set_option maxHeartbeats 2000000 in
set_option maxRecDepth 100000 in
theorem x_DivUp (w : World) : Calls Tryd.prog 35 #[.agg #[.int .i64 (-1), .int .u64 18446744073709551609], .agg #[.int .i64 0, .int .u64 2]] w fun e w' => e = .returned (.tuple #[.agg #[.int .i64 (-1), .int .u64 18446744073709551613], .bool true]) ∧ Kept w w' := by
  have h := wDivUp_w (-7) (2) (by omega) (by omega) (by omega) (by omega) w
  have e0 : wh (-7) = (-1 : Int) := by decide +kernel
  have e1 : wl (-7) = 18446744073709551609 := by decide +kernel
  have e2 : wh (2) = (0 : Int) := by decide +kernel
  have e3 : wl (2) = 2 := by decide +kernel
  have e4 : wqV 1 (-7) (2) = (-3) := by decide +kernel
  have e5 : wh ((-3)) = (-1 : Int) := by decide +kernel
  have e6 : wl ((-3)) = 18446744073709551613 := by decide +kernel
  have e7 : wqE 1 (-7) (2) = true := by decide +kernel
  rw [e0] at h
  rw [e1] at h
  rw [e2] at h
  rw [e3] at h
  rw [e4] at h
  rw [e5] at h
  rw [e6] at h
  rw [e7] at h
  exact h
set_option maxHeartbeats 2000000 in
set_option maxRecDepth 100000 in
theorem x_Nearest (w : World) : Calls Tryd.prog 37 #[.agg #[.int .i64 (-1), .int .u64 18446744073709551609], .agg #[.int .i64 0, .int .u64 2]] w fun e w' => e = .returned (.tuple #[.agg #[.int .i64 (-1), .int .u64 18446744073709551613], .bool true]) ∧ Kept w w' := by
  have h := wNearest_w (-7) (2) (by omega) (by omega) (by omega) (by omega) w
  have e0 : wh (-7) = (-1 : Int) := by decide +kernel
  have e1 : wl (-7) = 18446744073709551609 := by decide +kernel
  have e2 : wh (2) = (0 : Int) := by decide +kernel
  have e3 : wl (2) = 2 := by decide +kernel
  have e4 : wqV 2 (-7) (2) = (-3) := by decide +kernel
  have e5 : wh ((-3)) = (-1 : Int) := by decide +kernel
  have e6 : wl ((-3)) = 18446744073709551613 := by decide +kernel
  have e7 : wqE 2 (-7) (2) = true := by decide +kernel
  rw [e0] at h
  rw [e1] at h
  rw [e2] at h
  rw [e3] at h
  rw [e4] at h
  rw [e5] at h
  rw [e6] at h
  rw [e7] at h
  exact h
set_option maxHeartbeats 2000000 in
set_option maxRecDepth 100000 in
theorem x_sqrt (w : World) : Calls Tryd.prog 39 #[.agg #[.int .i64 4611686018427387904, .int .u64 0]] w fun e w' => e = .returned (.tuple #[.int .u64 9223372036854775808, .bool true]) ∧ Kept w w' := by
  have h := wsqrt_w (85070591730234615865843651857942052864) (by omega) (by omega) w
  have e0 : wh (85070591730234615865843651857942052864) = 4611686018427387904 := by decide +kernel
  have e1 : wl (85070591730234615865843651857942052864) = 0 := by decide +kernel
  have e2 : wsq (85070591730234615865843651857942052864) = 9223372036854775808 := by rw [show (85070591730234615865843651857942052864 : Int) = 9223372036854775808 * 9223372036854775808 from by decide]; exact wsq_sq _ (by omega) (by omega)
  have e3 : wsqE (85070591730234615865843651857942052864) = true := by decide +kernel
  rw [e0] at h
  rw [e1] at h
  rw [e2] at h
  rw [e3] at h
  exact h
set_option maxHeartbeats 2000000 in
set_option maxRecDepth 100000 in
theorem x_parse (w : World) : Calls Tryd.prog 42 #[.string ⟨#[48, 48, 55]⟩] w fun e w' => e = .returned (.tuple #[.agg #[.int .i64 0, .int .u64 0], .int .i64 4]) ∧ Kept w w' := by
  go_enter Tryd.func42, Tryd.ntmps42
  go_wp2_with fail
  all_goals (exact bodyPost_ret (v := .tuple #[.agg #[.int .i64 0, .int .u64 0], .int .i64 4]) (by first | (simp [results, Tryd.results42, go_sem]; done) | (simp (maxDischargeDepth := 7) [results, Tryd.results42, go_sem, *]; done)) rfl ⟨rfl, (by repeat (first | with_reducible exact Kept.refl _ | with_reducible assumption | with_reducible refine Kept.setCell ?_ (by first | (simp; done) | (simp; omega) | omega) _ | with_reducible refine Kept.alloc ?_ _ | with_reducible refine Kept.drewN ?_ _ | with_reducible refine Kept.drew ?_ | with_reducible refine Kept.trans ?_ (by with_reducible assumption) | with_reducible refine Kept.dr ?_ (by with_reducible assumption)))⟩)
theorem x_dec1 : (⟨(Lib.decDigits 1).toArray⟩ : ByteArray) = ⟨#[49]⟩ := by decide +kernel
theorem x_dec2 : (⟨(Lib.decDigits 8446744073709551616).toArray⟩ : ByteArray) = ⟨#[56, 52, 52, 54, 55, 52, 52, 48, 55, 51, 55, 48, 57, 53, 53, 49, 54, 49, 54]⟩ := by decide +kernel
set_option maxHeartbeats 2000000 in
set_option maxRecDepth 100000 in
theorem x_textp (w : World) (ht : Tb w) : Calls Tryd.prog 41 #[.agg #[.int .i64 1, .int .u64 0]] w fun e w' => e = .returned (.string ⟨#[49, 56, 52, 52, 54, 55, 52, 52, 48, 55, 51, 55, 48, 57, 53, 53, 49, 54, 49, 54]⟩) ∧ Kept w w' := by
  have hs := size_w (18446744073709551616) (by omega) (by omega)
  have s0 : wh (18446744073709551616) = (1 : Int) := by decide +kernel
  have s1 : wl (18446744073709551616) = 0 := by decide +kernel
  have s2 : wmag (18446744073709551616) = 18446744073709551616 := by decide +kernel
  have s3 : wh 18446744073709551616 = 1 := by decide +kernel
  have s4 : wl 18446744073709551616 = 0 := by decide +kernel
  rw [s0, s1, s2, s3, s4] at hs
  have HS := Lib.hid hs
  clear hs s0 s1 s2 s3 s4
  have hd := divide_w 18446744073709551616 10000000000000000000 (by omega) (by omega) (by omega) (by omega) (by omega)
  have d0 : wh 18446744073709551616 = 1 := by decide +kernel
  rw [d0] at hd
  have d1 : wl 18446744073709551616 = 0 := by decide +kernel
  rw [d1] at hd
  have d2 : wh 10000000000000000000 = 0 := by decide +kernel
  rw [d2] at hd
  have d3 : wl 10000000000000000000 = 10000000000000000000 := by decide +kernel
  rw [d3] at hd
  have d4 : (18446744073709551616 : Int) / 10000000000000000000 = 1 := by decide +kernel
  rw [d4] at hd
  have d5 : (18446744073709551616 : Int) % 10000000000000000000 = 8446744073709551616 := by decide +kernel
  rw [d5] at hd
  have d6 : wh 1 = 0 := by decide +kernel
  rw [d6] at hd
  have d7 : wl 1 = 1 := by decide +kernel
  rw [d7] at hd
  have d8 : wh 8446744073709551616 = 0 := by decide +kernel
  rw [d8] at hd
  have d9 : wl 8446744073709551616 = 8446744073709551616 := by decide +kernel
  rw [d9] at hd
  clear d0 d1 d2 d3 d4 d5 d6 d7 d8 d9
  have HD := Lib.hid hd
  clear hd
  have HT := Lib.hid ht
  clear ht
  have HF := Lib.hid (fun w => fmtu_w 8446744073709551616 (by omega) w)
  have HG := Lib.hid (fun w => fmtu_w 1 (by omega) w)
  go_enter Tryd.func41, Tryd.ntmps41
  go_wp2_with fail
  with_reducible refine (HS.out _).mono ?_
  rintro e w1 ⟨rfl, hk1⟩
  refine kuse (b := w.heap.size) hk1 (by first | (simp; done) | (simp; omega) | omega) ?_
  intro ha hb
  have hz1_0 : w.heap.size < w1.heap.size := by have := hk1.size; (try simp at this); omega
  have hn1_0 : ¬ w.heap.size = w1.heap.size := by omega
  have hm1_0 : ¬ w1.heap.size = w.heap.size := by omega
  have hf1_0_0 : w1.cell? ⟨w.heap.size, 0, none⟩ = some (.int .i64 1) := by first | (rw [ha]; with_reducible assumption) | (simp (maxDischargeDepth := 7) [go_sem, ha]; done) | (rw [ha]; assumption) | (simp (maxDischargeDepth := 7) [go_sem, ha, *]; done)
  have hf1_0_1 : w1.cell? ⟨w.heap.size, 1, none⟩ = some (.int .u64 0) := by first | (rw [ha]; with_reducible assumption) | (simp (maxDischargeDepth := 7) [go_sem, ha]; done) | (rw [ha]; assumption) | (simp (maxDischargeDepth := 7) [go_sem, ha, *]; done)
  try have hg1_0 : ∀ o, w1.frozen? ⟨w.heap.size, o, none⟩ = false := by intro o; first | (simp (maxDischargeDepth := 7) [go_sem, hb]; done) | (rw [hb]; simp (maxDischargeDepth := 7) [go_sem, *]; done)
  clear ha hb
  go_wp2_with fail
  refine wp_loop_rounds 2 ?_
  rw [rounds_succ]
  go_wp2_with fail
  with_reducible refine (HD.out _).mono ?_
  rintro e w2 ⟨rfl, hk2⟩
  refine kuse (b := w.heap.size) hk2 (by first | (simp; done) | (simp; omega) | omega) ?_
  intro ha hb
  have hz2_0 : w.heap.size < w2.heap.size := by have := hk2.size; (try simp at this); omega
  have hn2_0 : ¬ w.heap.size = w2.heap.size := by omega
  have hm2_0 : ¬ w2.heap.size = w.heap.size := by omega
  have hf2_0_0 : w2.cell? ⟨w.heap.size, 0, none⟩ = some (.int .i64 1) := by first | (rw [ha]; with_reducible assumption) | (simp (maxDischargeDepth := 7) [go_sem, ha]; done) | (rw [ha]; assumption) | (simp (maxDischargeDepth := 7) [go_sem, ha, *]; done)
  have hf2_0_1 : w2.cell? ⟨w.heap.size, 1, none⟩ = some (.int .u64 0) := by first | (rw [ha]; with_reducible assumption) | (simp (maxDischargeDepth := 7) [go_sem, ha]; done) | (rw [ha]; assumption) | (simp (maxDischargeDepth := 7) [go_sem, ha, *]; done)
  try have hg2_0 : ∀ o, w2.frozen? ⟨w.heap.size, o, none⟩ = false := by intro o; first | (simp (maxDischargeDepth := 7) [go_sem, hb]; done) | (rw [hb]; simp (maxDischargeDepth := 7) [go_sem, *]; done)
  clear ha hb
  refine kuse (b := w1.heap.size) hk2 (by first | (simp; done) | (simp; omega) | omega) ?_
  intro ha hb
  have hz2_1 : w1.heap.size < w2.heap.size := by have := hk2.size; (try simp at this); omega
  have hn2_1 : ¬ w1.heap.size = w2.heap.size := by omega
  have hm2_1 : ¬ w2.heap.size = w1.heap.size := by omega
  have hf2_1_0 : w2.cell? ⟨w1.heap.size, 0, none⟩ = some (.int .u64 1) := by first | (rw [ha]; with_reducible assumption) | (simp (maxDischargeDepth := 7) [go_sem, ha]; done) | (rw [ha]; assumption) | (simp (maxDischargeDepth := 7) [go_sem, ha, *]; done)
  have hf2_1_1 : w2.cell? ⟨w1.heap.size, 1, none⟩ = some (.int .u64 0) := by first | (rw [ha]; with_reducible assumption) | (simp (maxDischargeDepth := 7) [go_sem, ha]; done) | (rw [ha]; assumption) | (simp (maxDischargeDepth := 7) [go_sem, ha, *]; done)
  try have hg2_1 : ∀ o, w2.frozen? ⟨w1.heap.size, o, none⟩ = false := by intro o; first | (simp (maxDischargeDepth := 7) [go_sem, hb]; done) | (rw [hb]; simp (maxDischargeDepth := 7) [go_sem, *]; done)
  clear ha hb
  try clear hf1_0_0
  try clear hf1_0_1
  try clear hg1_0
  go_wp2_with fail
  refine (HF.out _ (fun _ => tab_kept HT.out (by repeat (first | with_reducible exact Kept.refl _ | with_reducible assumption | with_reducible refine Kept.setCell ?_ (by first | (simp; done) | (simp; omega) | omega) _ | with_reducible refine Kept.alloc ?_ _ | with_reducible refine Kept.drewN ?_ _ | with_reducible refine Kept.drew ?_ | with_reducible refine Kept.trans ?_ (by with_reducible assumption) | with_reducible refine Kept.dr ?_ (by with_reducible assumption))))).mono ?_
  rw [x_dec2]
  rintro e w3 ⟨rfl, hk3⟩
  refine kuse (b := w.heap.size) hk3 (by first | (simp; done) | (simp; omega) | omega) ?_
  intro ha hb
  have hz3_0 : w.heap.size < w3.heap.size := by have := hk3.size; (try simp at this); omega
  have hn3_0 : ¬ w.heap.size = w3.heap.size := by omega
  have hm3_0 : ¬ w3.heap.size = w.heap.size := by omega
  have hf3_0_0 : w3.cell? ⟨w.heap.size, 0, none⟩ = some (.int .i64 1) := by first | (rw [ha]; with_reducible assumption) | (simp (maxDischargeDepth := 7) [go_sem, ha]; done) | (rw [ha]; assumption) | (simp (maxDischargeDepth := 7) [go_sem, ha, *]; done)
  have hf3_0_1 : w3.cell? ⟨w.heap.size, 1, none⟩ = some (.int .u64 0) := by first | (rw [ha]; with_reducible assumption) | (simp (maxDischargeDepth := 7) [go_sem, ha]; done) | (rw [ha]; assumption) | (simp (maxDischargeDepth := 7) [go_sem, ha, *]; done)
  try have hg3_0 : ∀ o, w3.frozen? ⟨w.heap.size, o, none⟩ = false := by intro o; first | (simp (maxDischargeDepth := 7) [go_sem, hb]; done) | (rw [hb]; simp (maxDischargeDepth := 7) [go_sem, *]; done)
  clear ha hb
  refine kuse (b := w1.heap.size) hk3 (by first | (simp; done) | (simp; omega) | omega) ?_
  intro ha hb
  have hz3_1 : w1.heap.size < w3.heap.size := by have := hk3.size; (try simp at this); omega
  have hn3_1 : ¬ w1.heap.size = w3.heap.size := by omega
  have hm3_1 : ¬ w3.heap.size = w1.heap.size := by omega
  have hf3_1_0 : w3.cell? ⟨w1.heap.size, 0, none⟩ = some (.int .u64 1) := by first | (rw [ha]; with_reducible assumption) | (simp (maxDischargeDepth := 7) [go_sem, ha]; done) | (rw [ha]; assumption) | (simp (maxDischargeDepth := 7) [go_sem, ha, *]; done)
  have hf3_1_1 : w3.cell? ⟨w1.heap.size, 1, none⟩ = some (.int .u64 0) := by first | (rw [ha]; with_reducible assumption) | (simp (maxDischargeDepth := 7) [go_sem, ha]; done) | (rw [ha]; assumption) | (simp (maxDischargeDepth := 7) [go_sem, ha, *]; done)
  try have hg3_1 : ∀ o, w3.frozen? ⟨w1.heap.size, o, none⟩ = false := by intro o; first | (simp (maxDischargeDepth := 7) [go_sem, hb]; done) | (rw [hb]; simp (maxDischargeDepth := 7) [go_sem, *]; done)
  clear ha hb
  refine kuse (b := w2.heap.size) hk3 (by first | (simp; done) | (simp; omega) | omega) ?_
  intro ha hb
  have hz3_2 : w2.heap.size < w3.heap.size := by have := hk3.size; (try simp at this); omega
  have hn3_2 : ¬ w2.heap.size = w3.heap.size := by omega
  have hm3_2 : ¬ w3.heap.size = w2.heap.size := by omega
  have hf3_2_0 : w3.cell? ⟨w2.heap.size, 0, none⟩ = some (.int .u64 0) := by first | (rw [ha]; with_reducible assumption) | (simp (maxDischargeDepth := 7) [go_sem, ha]; done) | (rw [ha]; assumption) | (simp (maxDischargeDepth := 7) [go_sem, ha, *]; done)
  have hf3_2_1 : w3.cell? ⟨w2.heap.size, 1, none⟩ = some (.int .u64 1) := by first | (rw [ha]; with_reducible assumption) | (simp (maxDischargeDepth := 7) [go_sem, ha]; done) | (rw [ha]; assumption) | (simp (maxDischargeDepth := 7) [go_sem, ha, *]; done)
  try have hg3_2 : ∀ o, w3.frozen? ⟨w2.heap.size, o, none⟩ = false := by intro o; first | (simp (maxDischargeDepth := 7) [go_sem, hb]; done) | (rw [hb]; simp (maxDischargeDepth := 7) [go_sem, *]; done)
  clear ha hb
  refine kuse (b := w2.heap.size + 1) hk3 (by first | (simp; done) | (simp; omega) | omega) ?_
  intro ha hb
  have hz3_3 : w2.heap.size + 1 < w3.heap.size := by have := hk3.size; (try simp at this); omega
  have hn3_3 : ¬ w2.heap.size + 1 = w3.heap.size := by omega
  have hm3_3 : ¬ w3.heap.size = w2.heap.size + 1 := by omega
  have hf3_3_0 : w3.cell? ⟨w2.heap.size + 1, 0, none⟩ = some (.int .u64 0) := by first | (rw [ha]; with_reducible assumption) | (simp (maxDischargeDepth := 7) [go_sem, ha]; done) | (rw [ha]; assumption) | (simp (maxDischargeDepth := 7) [go_sem, ha, *]; done)
  have hf3_3_1 : w3.cell? ⟨w2.heap.size + 1, 1, none⟩ = some (.int .u64 8446744073709551616) := by first | (rw [ha]; with_reducible assumption) | (simp (maxDischargeDepth := 7) [go_sem, ha]; done) | (rw [ha]; assumption) | (simp (maxDischargeDepth := 7) [go_sem, ha, *]; done)
  try have hg3_3 : ∀ o, w3.frozen? ⟨w2.heap.size + 1, o, none⟩ = false := by intro o; first | (simp (maxDischargeDepth := 7) [go_sem, hb]; done) | (rw [hb]; simp (maxDischargeDepth := 7) [go_sem, *]; done)
  clear ha hb
  try clear hf2_0_0
  try clear hf2_0_1
  try clear hf2_1_0
  try clear hf2_1_1
  try clear hg2_0
  try clear hg2_1
  try clear hz2_1
  go_wp2_with fail
  refine wp_loop_rounds 1 ?_
  rw [rounds_succ]
  go_wp2_with fail
  rw [rounds_succ]
  go_wp2_with fail
  refine (HG.out _ (fun h => absurd h (by omega))).mono ?_
  rw [x_dec1]
  rintro e w4 ⟨rfl, hk4⟩
  refine kuse (b := w.heap.size) hk4 (by first | (simp; done) | (simp; omega) | omega) ?_
  intro ha hb
  have hz4_0 : w.heap.size < w4.heap.size := by have := hk4.size; (try simp at this); omega
  have hn4_0 : ¬ w.heap.size = w4.heap.size := by omega
  have hm4_0 : ¬ w4.heap.size = w.heap.size := by omega
  have hf4_0_0 : w4.cell? ⟨w.heap.size, 0, none⟩ = some (.int .i64 1) := by first | (rw [ha]; with_reducible assumption) | (simp (maxDischargeDepth := 7) [go_sem, ha]; done) | (rw [ha]; assumption) | (simp (maxDischargeDepth := 7) [go_sem, ha, *]; done)
  have hf4_0_1 : w4.cell? ⟨w.heap.size, 1, none⟩ = some (.int .u64 0) := by first | (rw [ha]; with_reducible assumption) | (simp (maxDischargeDepth := 7) [go_sem, ha]; done) | (rw [ha]; assumption) | (simp (maxDischargeDepth := 7) [go_sem, ha, *]; done)
  try have hg4_0 : ∀ o, w4.frozen? ⟨w.heap.size, o, none⟩ = false := by intro o; first | (simp (maxDischargeDepth := 7) [go_sem, hb]; done) | (rw [hb]; simp (maxDischargeDepth := 7) [go_sem, *]; done)
  clear ha hb
  try clear hf3_0_0
  try clear hf3_0_1
  try clear hf3_1_0
  try clear hf3_1_1
  try clear hf3_2_0
  try clear hf3_2_1
  try clear hf3_3_0
  try clear hf3_3_1
  try clear hg3_0
  try clear hg3_1
  try clear hg3_2
  try clear hg3_3
  try clear hz3_1
  try clear hz3_2
  try clear hz3_3
  go_wp2_with fail
  all_goals go_ret
  all_goals exact ⟨rfl, (by repeat (first | with_reducible exact Kept.refl _ | with_reducible assumption | with_reducible refine Kept.setCell ?_ (by first | (simp; done) | (simp; omega) | omega) _ | with_reducible refine Kept.alloc ?_ _ | with_reducible refine Kept.drewN ?_ _ | with_reducible refine Kept.drew ?_ | with_reducible refine Kept.trans ?_ (by with_reducible assumption) | with_reducible refine Kept.dr ?_ (by with_reducible assumption)))⟩
set_option maxHeartbeats 2000000 in
set_option maxRecDepth 100000 in
theorem x_textm (w : World) (ht : Tb w) : Calls Tryd.prog 41 #[.agg #[.int .i64 (-1), .int .u64 0]] w fun e w' => e = .returned (.string ⟨#[45, 49, 56, 52, 52, 54, 55, 52, 52, 48, 55, 51, 55, 48, 57, 53, 53, 49, 54, 49, 54]⟩) ∧ Kept w w' := by
  have hs := size_w (-18446744073709551616) (by omega) (by omega)
  have s0 : wh (-18446744073709551616) = (-1 : Int) := by decide +kernel
  have s1 : wl (-18446744073709551616) = 0 := by decide +kernel
  have s2 : wmag (-18446744073709551616) = 18446744073709551616 := by decide +kernel
  have s3 : wh 18446744073709551616 = 1 := by decide +kernel
  have s4 : wl 18446744073709551616 = 0 := by decide +kernel
  rw [s0, s1, s2, s3, s4] at hs
  have HS := Lib.hid hs
  clear hs s0 s1 s2 s3 s4
  have hd := divide_w 18446744073709551616 10000000000000000000 (by omega) (by omega) (by omega) (by omega) (by omega)
  have d0 : wh 18446744073709551616 = 1 := by decide +kernel
  rw [d0] at hd
  have d1 : wl 18446744073709551616 = 0 := by decide +kernel
  rw [d1] at hd
  have d2 : wh 10000000000000000000 = 0 := by decide +kernel
  rw [d2] at hd
  have d3 : wl 10000000000000000000 = 10000000000000000000 := by decide +kernel
  rw [d3] at hd
  have d4 : (18446744073709551616 : Int) / 10000000000000000000 = 1 := by decide +kernel
  rw [d4] at hd
  have d5 : (18446744073709551616 : Int) % 10000000000000000000 = 8446744073709551616 := by decide +kernel
  rw [d5] at hd
  have d6 : wh 1 = 0 := by decide +kernel
  rw [d6] at hd
  have d7 : wl 1 = 1 := by decide +kernel
  rw [d7] at hd
  have d8 : wh 8446744073709551616 = 0 := by decide +kernel
  rw [d8] at hd
  have d9 : wl 8446744073709551616 = 8446744073709551616 := by decide +kernel
  rw [d9] at hd
  clear d0 d1 d2 d3 d4 d5 d6 d7 d8 d9
  have HD := Lib.hid hd
  clear hd
  have HT := Lib.hid ht
  clear ht
  have HF := Lib.hid (fun w => fmtu_w 8446744073709551616 (by omega) w)
  have HG := Lib.hid (fun w => fmtu_w 1 (by omega) w)
  go_enter Tryd.func41, Tryd.ntmps41
  go_wp2_with fail
  with_reducible refine (HS.out _).mono ?_
  rintro e w1 ⟨rfl, hk1⟩
  refine kuse (b := w.heap.size) hk1 (by first | (simp; done) | (simp; omega) | omega) ?_
  intro ha hb
  have hz1_0 : w.heap.size < w1.heap.size := by have := hk1.size; (try simp at this); omega
  have hn1_0 : ¬ w.heap.size = w1.heap.size := by omega
  have hm1_0 : ¬ w1.heap.size = w.heap.size := by omega
  have hf1_0_0 : w1.cell? ⟨w.heap.size, 0, none⟩ = some (.int .i64 (-1)) := by first | (rw [ha]; with_reducible assumption) | (simp (maxDischargeDepth := 7) [go_sem, ha]; done) | (rw [ha]; assumption) | (simp (maxDischargeDepth := 7) [go_sem, ha, *]; done)
  have hf1_0_1 : w1.cell? ⟨w.heap.size, 1, none⟩ = some (.int .u64 0) := by first | (rw [ha]; with_reducible assumption) | (simp (maxDischargeDepth := 7) [go_sem, ha]; done) | (rw [ha]; assumption) | (simp (maxDischargeDepth := 7) [go_sem, ha, *]; done)
  try have hg1_0 : ∀ o, w1.frozen? ⟨w.heap.size, o, none⟩ = false := by intro o; first | (simp (maxDischargeDepth := 7) [go_sem, hb]; done) | (rw [hb]; simp (maxDischargeDepth := 7) [go_sem, *]; done)
  clear ha hb
  go_wp2_with fail
  refine wp_loop_rounds 2 ?_
  rw [rounds_succ]
  go_wp2_with fail
  with_reducible refine (HD.out _).mono ?_
  rintro e w2 ⟨rfl, hk2⟩
  refine kuse (b := w.heap.size) hk2 (by first | (simp; done) | (simp; omega) | omega) ?_
  intro ha hb
  have hz2_0 : w.heap.size < w2.heap.size := by have := hk2.size; (try simp at this); omega
  have hn2_0 : ¬ w.heap.size = w2.heap.size := by omega
  have hm2_0 : ¬ w2.heap.size = w.heap.size := by omega
  have hf2_0_0 : w2.cell? ⟨w.heap.size, 0, none⟩ = some (.int .i64 (-1)) := by first | (rw [ha]; with_reducible assumption) | (simp (maxDischargeDepth := 7) [go_sem, ha]; done) | (rw [ha]; assumption) | (simp (maxDischargeDepth := 7) [go_sem, ha, *]; done)
  have hf2_0_1 : w2.cell? ⟨w.heap.size, 1, none⟩ = some (.int .u64 0) := by first | (rw [ha]; with_reducible assumption) | (simp (maxDischargeDepth := 7) [go_sem, ha]; done) | (rw [ha]; assumption) | (simp (maxDischargeDepth := 7) [go_sem, ha, *]; done)
  try have hg2_0 : ∀ o, w2.frozen? ⟨w.heap.size, o, none⟩ = false := by intro o; first | (simp (maxDischargeDepth := 7) [go_sem, hb]; done) | (rw [hb]; simp (maxDischargeDepth := 7) [go_sem, *]; done)
  clear ha hb
  refine kuse (b := w1.heap.size) hk2 (by first | (simp; done) | (simp; omega) | omega) ?_
  intro ha hb
  have hz2_1 : w1.heap.size < w2.heap.size := by have := hk2.size; (try simp at this); omega
  have hn2_1 : ¬ w1.heap.size = w2.heap.size := by omega
  have hm2_1 : ¬ w2.heap.size = w1.heap.size := by omega
  have hf2_1_0 : w2.cell? ⟨w1.heap.size, 0, none⟩ = some (.int .u64 1) := by first | (rw [ha]; with_reducible assumption) | (simp (maxDischargeDepth := 7) [go_sem, ha]; done) | (rw [ha]; assumption) | (simp (maxDischargeDepth := 7) [go_sem, ha, *]; done)
  have hf2_1_1 : w2.cell? ⟨w1.heap.size, 1, none⟩ = some (.int .u64 0) := by first | (rw [ha]; with_reducible assumption) | (simp (maxDischargeDepth := 7) [go_sem, ha]; done) | (rw [ha]; assumption) | (simp (maxDischargeDepth := 7) [go_sem, ha, *]; done)
  try have hg2_1 : ∀ o, w2.frozen? ⟨w1.heap.size, o, none⟩ = false := by intro o; first | (simp (maxDischargeDepth := 7) [go_sem, hb]; done) | (rw [hb]; simp (maxDischargeDepth := 7) [go_sem, *]; done)
  clear ha hb
  try clear hf1_0_0
  try clear hf1_0_1
  try clear hg1_0
  go_wp2_with fail
  refine (HF.out _ (fun _ => tab_kept HT.out (by repeat (first | with_reducible exact Kept.refl _ | with_reducible assumption | with_reducible refine Kept.setCell ?_ (by first | (simp; done) | (simp; omega) | omega) _ | with_reducible refine Kept.alloc ?_ _ | with_reducible refine Kept.drewN ?_ _ | with_reducible refine Kept.drew ?_ | with_reducible refine Kept.trans ?_ (by with_reducible assumption) | with_reducible refine Kept.dr ?_ (by with_reducible assumption))))).mono ?_
  rw [x_dec2]
  rintro e w3 ⟨rfl, hk3⟩
  refine kuse (b := w.heap.size) hk3 (by first | (simp; done) | (simp; omega) | omega) ?_
  intro ha hb
  have hz3_0 : w.heap.size < w3.heap.size := by have := hk3.size; (try simp at this); omega
  have hn3_0 : ¬ w.heap.size = w3.heap.size := by omega
  have hm3_0 : ¬ w3.heap.size = w.heap.size := by omega
  have hf3_0_0 : w3.cell? ⟨w.heap.size, 0, none⟩ = some (.int .i64 (-1)) := by first | (rw [ha]; with_reducible assumption) | (simp (maxDischargeDepth := 7) [go_sem, ha]; done) | (rw [ha]; assumption) | (simp (maxDischargeDepth := 7) [go_sem, ha, *]; done)
  have hf3_0_1 : w3.cell? ⟨w.heap.size, 1, none⟩ = some (.int .u64 0) := by first | (rw [ha]; with_reducible assumption) | (simp (maxDischargeDepth := 7) [go_sem, ha]; done) | (rw [ha]; assumption) | (simp (maxDischargeDepth := 7) [go_sem, ha, *]; done)
  try have hg3_0 : ∀ o, w3.frozen? ⟨w.heap.size, o, none⟩ = false := by intro o; first | (simp (maxDischargeDepth := 7) [go_sem, hb]; done) | (rw [hb]; simp (maxDischargeDepth := 7) [go_sem, *]; done)
  clear ha hb
  refine kuse (b := w1.heap.size) hk3 (by first | (simp; done) | (simp; omega) | omega) ?_
  intro ha hb
  have hz3_1 : w1.heap.size < w3.heap.size := by have := hk3.size; (try simp at this); omega
  have hn3_1 : ¬ w1.heap.size = w3.heap.size := by omega
  have hm3_1 : ¬ w3.heap.size = w1.heap.size := by omega
  have hf3_1_0 : w3.cell? ⟨w1.heap.size, 0, none⟩ = some (.int .u64 1) := by first | (rw [ha]; with_reducible assumption) | (simp (maxDischargeDepth := 7) [go_sem, ha]; done) | (rw [ha]; assumption) | (simp (maxDischargeDepth := 7) [go_sem, ha, *]; done)
  have hf3_1_1 : w3.cell? ⟨w1.heap.size, 1, none⟩ = some (.int .u64 0) := by first | (rw [ha]; with_reducible assumption) | (simp (maxDischargeDepth := 7) [go_sem, ha]; done) | (rw [ha]; assumption) | (simp (maxDischargeDepth := 7) [go_sem, ha, *]; done)
  try have hg3_1 : ∀ o, w3.frozen? ⟨w1.heap.size, o, none⟩ = false := by intro o; first | (simp (maxDischargeDepth := 7) [go_sem, hb]; done) | (rw [hb]; simp (maxDischargeDepth := 7) [go_sem, *]; done)
  clear ha hb
  refine kuse (b := w2.heap.size) hk3 (by first | (simp; done) | (simp; omega) | omega) ?_
  intro ha hb
  have hz3_2 : w2.heap.size < w3.heap.size := by have := hk3.size; (try simp at this); omega
  have hn3_2 : ¬ w2.heap.size = w3.heap.size := by omega
  have hm3_2 : ¬ w3.heap.size = w2.heap.size := by omega
  have hf3_2_0 : w3.cell? ⟨w2.heap.size, 0, none⟩ = some (.int .u64 0) := by first | (rw [ha]; with_reducible assumption) | (simp (maxDischargeDepth := 7) [go_sem, ha]; done) | (rw [ha]; assumption) | (simp (maxDischargeDepth := 7) [go_sem, ha, *]; done)
  have hf3_2_1 : w3.cell? ⟨w2.heap.size, 1, none⟩ = some (.int .u64 1) := by first | (rw [ha]; with_reducible assumption) | (simp (maxDischargeDepth := 7) [go_sem, ha]; done) | (rw [ha]; assumption) | (simp (maxDischargeDepth := 7) [go_sem, ha, *]; done)
  try have hg3_2 : ∀ o, w3.frozen? ⟨w2.heap.size, o, none⟩ = false := by intro o; first | (simp (maxDischargeDepth := 7) [go_sem, hb]; done) | (rw [hb]; simp (maxDischargeDepth := 7) [go_sem, *]; done)
  clear ha hb
  refine kuse (b := w2.heap.size + 1) hk3 (by first | (simp; done) | (simp; omega) | omega) ?_
  intro ha hb
  have hz3_3 : w2.heap.size + 1 < w3.heap.size := by have := hk3.size; (try simp at this); omega
  have hn3_3 : ¬ w2.heap.size + 1 = w3.heap.size := by omega
  have hm3_3 : ¬ w3.heap.size = w2.heap.size + 1 := by omega
  have hf3_3_0 : w3.cell? ⟨w2.heap.size + 1, 0, none⟩ = some (.int .u64 0) := by first | (rw [ha]; with_reducible assumption) | (simp (maxDischargeDepth := 7) [go_sem, ha]; done) | (rw [ha]; assumption) | (simp (maxDischargeDepth := 7) [go_sem, ha, *]; done)
  have hf3_3_1 : w3.cell? ⟨w2.heap.size + 1, 1, none⟩ = some (.int .u64 8446744073709551616) := by first | (rw [ha]; with_reducible assumption) | (simp (maxDischargeDepth := 7) [go_sem, ha]; done) | (rw [ha]; assumption) | (simp (maxDischargeDepth := 7) [go_sem, ha, *]; done)
  try have hg3_3 : ∀ o, w3.frozen? ⟨w2.heap.size + 1, o, none⟩ = false := by intro o; first | (simp (maxDischargeDepth := 7) [go_sem, hb]; done) | (rw [hb]; simp (maxDischargeDepth := 7) [go_sem, *]; done)
  clear ha hb
  try clear hf2_0_0
  try clear hf2_0_1
  try clear hf2_1_0
  try clear hf2_1_1
  try clear hg2_0
  try clear hg2_1
  try clear hz2_1
  go_wp2_with fail
  refine wp_loop_rounds 1 ?_
  rw [rounds_succ]
  go_wp2_with fail
  rw [rounds_succ]
  go_wp2_with fail
  refine (HG.out _ (fun h => absurd h (by omega))).mono ?_
  rw [x_dec1]
  rintro e w4 ⟨rfl, hk4⟩
  refine kuse (b := w.heap.size) hk4 (by first | (simp; done) | (simp; omega) | omega) ?_
  intro ha hb
  have hz4_0 : w.heap.size < w4.heap.size := by have := hk4.size; (try simp at this); omega
  have hn4_0 : ¬ w.heap.size = w4.heap.size := by omega
  have hm4_0 : ¬ w4.heap.size = w.heap.size := by omega
  have hf4_0_0 : w4.cell? ⟨w.heap.size, 0, none⟩ = some (.int .i64 (-1)) := by first | (rw [ha]; with_reducible assumption) | (simp (maxDischargeDepth := 7) [go_sem, ha]; done) | (rw [ha]; assumption) | (simp (maxDischargeDepth := 7) [go_sem, ha, *]; done)
  have hf4_0_1 : w4.cell? ⟨w.heap.size, 1, none⟩ = some (.int .u64 0) := by first | (rw [ha]; with_reducible assumption) | (simp (maxDischargeDepth := 7) [go_sem, ha]; done) | (rw [ha]; assumption) | (simp (maxDischargeDepth := 7) [go_sem, ha, *]; done)
  try have hg4_0 : ∀ o, w4.frozen? ⟨w.heap.size, o, none⟩ = false := by intro o; first | (simp (maxDischargeDepth := 7) [go_sem, hb]; done) | (rw [hb]; simp (maxDischargeDepth := 7) [go_sem, *]; done)
  clear ha hb
  try clear hf3_0_0
  try clear hf3_0_1
  try clear hf3_1_0
  try clear hf3_1_1
  try clear hf3_2_0
  try clear hf3_2_1
  try clear hf3_3_0
  try clear hf3_3_1
  try clear hg3_0
  try clear hg3_1
  try clear hg3_2
  try clear hg3_3
  try clear hz3_1
  try clear hz3_2
  try clear hz3_3
  go_wp2_with fail
  all_goals go_ret
  all_goals exact ⟨rfl, (by repeat (first | with_reducible exact Kept.refl _ | with_reducible assumption | with_reducible refine Kept.setCell ?_ (by first | (simp; done) | (simp; omega) | omega) _ | with_reducible refine Kept.alloc ?_ _ | with_reducible refine Kept.drewN ?_ _ | with_reducible refine Kept.drew ?_ | with_reducible refine Kept.trans ?_ (by with_reducible assumption) | with_reducible refine Kept.dr ?_ (by with_reducible assumption)))⟩
end Go.Proofs.YtgbhcbmokoolnaaDoor
