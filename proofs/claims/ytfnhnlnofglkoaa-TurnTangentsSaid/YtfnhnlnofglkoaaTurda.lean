/-
  Own contracts: package line and the document's answers of layer 11: turns.
-/
import Derived.Test.YtfnhnlnofglkoaaTura
import Derived.WalkKit
import Derived.ProofKit
import Derived.OpenShut
import Derived.WalkLawsBesides
import Derived.WalkSpells
import Derived.Lib.Hide
import Derived.Deep.DeepCutAuto
import Derived.Deep.CutBlock
import Derived.Deep.QuietTactic
import Derived.BigQuiet
import Derived.Handy
import Derived.StillTailTactics
import Derived.IntWalk
import Derived.LoopN
import Derived.Deep.RegionHeld3
namespace Go.Proofs.Ytfnhnlnofglkoaa
open Go.ChangeShapes Go.WideShapes Go.ChangeAt Go.RowKit
set_option linter.unusedVariables false
set_option linter.unusedSimpArgs false
set_option maxHeartbeats 8000000 in
set_option maxRecDepth 100000 in
theorem flyBy_ok (bX bY x y r l : Int) (hb : pokB bX bY = true) (x0 : 0 ≤ x) (x1 : x < 129600000) (y0 : 0 ≤ y) (y1 : y < 129600000) (r0 : 1 ≤ r) (r1 : r ≤ 8000000) (l0 : 0 ≤ l) (l1 : l ≤ 8000000) (e1 : mvE bX bY (sinV (trn x 64800000)) (cosV (trn x 64800000)) l 1073741824 = 0) (hq : pokB (mvX bX bY (sinV (trn x 64800000)) (cosV (trn x 64800000)) l 1073741824) (mvY bX bY (sinV (trn x 64800000)) (cosV (trn x 64800000)) l 1073741824) = true) (e2 : mvE bX bY (sinV y) (cosV y) l 1073741824 = 0) (e3 : mvE (mvX bX bY (sinV (trn x 64800000)) (cosV (trn x 64800000)) l 1073741824) (mvY bX bY (sinV (trn x 64800000)) (cosV (trn x 64800000)) l 1073741824) (sinV (trn x (sg1 (dif x y) * 32400000))) (cosV (trn x (sg1 (dif x y) * 32400000))) r 1073741824 = 0) (w : World) : Calls Try.prog 69 #[.agg #[.int .i64 bX, .int .i64 bY], .int .i64 x, .int .i64 y, .int .i64 r, .int .i64 l] w fun e w' => e = .returned (.tuple #[.agg #[.int .i64 (mvX (mvX bX bY (sinV (trn x 64800000)) (cosV (trn x 64800000)) l 1073741824) (mvY bX bY (sinV (trn x 64800000)) (cosV (trn x 64800000)) l 1073741824) (sinV (trn x (sg1 (dif x y) * 32400000))) (cosV (trn x (sg1 (dif x y) * 32400000))) r 1073741824), .int .i64 (mvY (mvX bX bY (sinV (trn x 64800000)) (cosV (trn x 64800000)) l 1073741824) (mvY bX bY (sinV (trn x 64800000)) (cosV (trn x 64800000)) l 1073741824) (sinV (trn x (sg1 (dif x y) * 32400000))) (cosV (trn x (sg1 (dif x y) * 32400000))) r 1073741824), .int .i64 r, .int .i64 (trn x (-sg1 (dif x y) * 32400000)), .int .i64 (dif x y), .int .i64 (mvX bX bY (sinV (trn x 64800000)) (cosV (trn x 64800000)) l 1073741824), .int .i64 (mvY bX bY (sinV (trn x 64800000)) (cosV (trn x 64800000)) l 1073741824), .int .i64 (mvX bX bY (sinV y) (cosV y) l 1073741824), .int .i64 (mvY bX bY (sinV y) (cosV y) l 1073741824), .int .i64 l], .int .i64 0]) ∧ Kept w w' := by
  obtain ⟨bX0, bX1, bY0, bY1⟩ := pok_yes hb
  obtain ⟨db0, db1⟩ := dif_bd x y
  obtain ⟨ob0, ob1⟩ := trn_bd x 64800000
  have R1 := fun w => ray_ok bX bY (trn x 64800000) l hb (by omega) (by omega) (by omega) (by omega) w
  have R2 := fun w => ray_ok bX bY y l hb (by omega) (by omega) (by omega) (by omega) w
  have OPP := fun w => opp_w x (by omega) (by omega) w
  have DF := fun w => calls_kept (diff_w x y (by omega) (by omega) (by omega) (by omega) w)
  have sgc := sg1_cases (dif x y)
  have hq1 : pokB (mvX bX bY (sinV (trn x 64800000)) (cosV (trn x 64800000)) l 1073741824) (mvY bX bY (sinV (trn x 64800000)) (cosV (trn x 64800000)) l 1073741824) = true := hq
  obtain ⟨tb0, tb1⟩ := trn_bd x (sg1 (dif x y) * 32400000)
  have R3 := fun w => ray_ok (mvX bX bY (sinV (trn x 64800000)) (cosV (trn x 64800000)) l 1073741824) (mvY bX bY (sinV (trn x 64800000)) (cosV (trn x 64800000)) l 1073741824) (trn x (sg1 (dif x y) * 32400000)) r hq1 (by omega) (by omega) (by omega) (by omega) w
  have T1 := fun w => turn_w x (sg1 (dif x y) * 32400000) (by omega) (by omega) (by omega) (by omega) w
  have T2 := fun w => turn_w x (-sg1 (dif x y) * 32400000) (by omega) (by omega) (by omega) (by omega) w
  have SD := fun w => aside_w (dif x y) w
  rw [e1] at R1
  rw [e2] at R2
  rw [e3] at R3
  generalize mvX (mvX bX bY (sinV (trn x 64800000)) (cosV (trn x 64800000)) l 1073741824) (mvY bX bY (sinV (trn x 64800000)) (cosV (trn x 64800000)) l 1073741824) (sinV (trn x (sg1 (dif x y) * 32400000))) (cosV (trn x (sg1 (dif x y) * 32400000))) r 1073741824 = CX at *
  generalize mvY (mvX bX bY (sinV (trn x 64800000)) (cosV (trn x 64800000)) l 1073741824) (mvY bX bY (sinV (trn x 64800000)) (cosV (trn x 64800000)) l 1073741824) (sinV (trn x (sg1 (dif x y) * 32400000))) (cosV (trn x (sg1 (dif x y) * 32400000))) r 1073741824 = CY at *
  generalize mvX bX bY (sinV y) (cosV y) l 1073741824 = EX at *
  generalize mvY bX bY (sinV y) (cosV y) l 1073741824 = EY at *
  generalize mvX bX bY (sinV (trn x 64800000)) (cosV (trn x 64800000)) l 1073741824 = SX at *
  generalize mvY bX bY (sinV (trn x 64800000)) (cosV (trn x 64800000)) l 1073741824 = SY at *
  clear e1 e2 e3 hq
  have fb_ := trn_bd x (-sg1 (dif x y) * 32400000)
  generalize trn x (-sg1 (dif x y) * 32400000) = FR at *
  generalize trn x (sg1 (dif x y) * 32400000) = TN at *
  have wr1 : IntKind.i64.wrap (sg1 (dif x y) * 32400000) = sg1 (dif x y) * 32400000 := IntWalk.i64_in _ (by omega)
  have wr2 : IntKind.i64.wrap (-sg1 (dif x y)) = -sg1 (dif x y) := IntWalk.i64_in _ (by omega)
  have wr3 : IntKind.i64.wrap (-sg1 (dif x y) * 32400000) = -sg1 (dif x y) * 32400000 := IntWalk.i64_in _ (by omega)
  generalize sg1 (dif x y) = G at *
  generalize dif x y = DD at *
  generalize trn x 64800000 = OO at *
  have HR1 := Lib.hid R1
  have HR2 := Lib.hid R2
  have HOPP := Lib.hid OPP
  have HDF := Lib.hid DF
  clear R1 R2 OPP DF
  have HR3 := Lib.hid R3
  have HT1 := Lib.hid T1
  have HT2 := Lib.hid T2
  have HSD := Lib.hid SD
  clear R3 T1 T2 SD
  go_enter Try.func69, Try.ntmps69
  go_wp2_with fail
  with_reducible refine (HDF.out _).mono ?_
  rintro e w1 ⟨rfl, hk1⟩
  refine kuz (b := w.heap.size) hk1 (by first | (simp; done) | (simp; omega) | omega) ?_
  intro ha hb hz1_0 hn1_0 hm1_0
  have hf1_0_0 : w1.cell? ⟨w.heap.size, 0, none⟩ = some (.int .i64 bX) := (ha _).trans (by first | with_reducible assumption | (simp (maxDischargeDepth := 7) [go_sem]; done) | (simp (maxDischargeDepth := 7) [go_sem, *]; done))
  have hf1_0_1 : w1.cell? ⟨w.heap.size, 1, none⟩ = some (.int .i64 bY) := (ha _).trans (by first | with_reducible assumption | (simp (maxDischargeDepth := 7) [go_sem]; done) | (simp (maxDischargeDepth := 7) [go_sem, *]; done))
  try have hg1_0 : ∀ o, w1.frozen? ⟨w.heap.size, o, none⟩ = false := by intro o; rw [hb]; first | (simp (maxDischargeDepth := 7) [go_sem]; done) | (simp (maxDischargeDepth := 7) [go_sem, *]; done)
  clear ha hb
  refine kuz (b := w.heap.size + 1) hk1 (by first | (simp; done) | (simp; omega) | omega) ?_
  intro ha hb hz1_1 hn1_1 hm1_1
  have hf1_1_0 : w1.cell? ⟨w.heap.size + 1, 0, none⟩ = some (.int .i64 0) := (ha _).trans (by first | with_reducible assumption | (simp (maxDischargeDepth := 7) [go_sem]; done) | (simp (maxDischargeDepth := 7) [go_sem, *]; done))
  have hf1_1_1 : w1.cell? ⟨w.heap.size + 1, 1, none⟩ = some (.int .i64 0) := (ha _).trans (by first | with_reducible assumption | (simp (maxDischargeDepth := 7) [go_sem]; done) | (simp (maxDischargeDepth := 7) [go_sem, *]; done))
  have hf1_1_2 : w1.cell? ⟨w.heap.size + 1, 2, none⟩ = some (.int .i64 0) := (ha _).trans (by first | with_reducible assumption | (simp (maxDischargeDepth := 7) [go_sem]; done) | (simp (maxDischargeDepth := 7) [go_sem, *]; done))
  have hf1_1_3 : w1.cell? ⟨w.heap.size + 1, 3, none⟩ = some (.int .i64 0) := (ha _).trans (by first | with_reducible assumption | (simp (maxDischargeDepth := 7) [go_sem]; done) | (simp (maxDischargeDepth := 7) [go_sem, *]; done))
  have hf1_1_4 : w1.cell? ⟨w.heap.size + 1, 4, none⟩ = some (.int .i64 0) := (ha _).trans (by first | with_reducible assumption | (simp (maxDischargeDepth := 7) [go_sem]; done) | (simp (maxDischargeDepth := 7) [go_sem, *]; done))
  have hf1_1_5 : w1.cell? ⟨w.heap.size + 1, 5, none⟩ = some (.int .i64 0) := (ha _).trans (by first | with_reducible assumption | (simp (maxDischargeDepth := 7) [go_sem]; done) | (simp (maxDischargeDepth := 7) [go_sem, *]; done))
  have hf1_1_6 : w1.cell? ⟨w.heap.size + 1, 6, none⟩ = some (.int .i64 0) := (ha _).trans (by first | with_reducible assumption | (simp (maxDischargeDepth := 7) [go_sem]; done) | (simp (maxDischargeDepth := 7) [go_sem, *]; done))
  have hf1_1_7 : w1.cell? ⟨w.heap.size + 1, 7, none⟩ = some (.int .i64 0) := (ha _).trans (by first | with_reducible assumption | (simp (maxDischargeDepth := 7) [go_sem]; done) | (simp (maxDischargeDepth := 7) [go_sem, *]; done))
  have hf1_1_8 : w1.cell? ⟨w.heap.size + 1, 8, none⟩ = some (.int .i64 0) := (ha _).trans (by first | with_reducible assumption | (simp (maxDischargeDepth := 7) [go_sem]; done) | (simp (maxDischargeDepth := 7) [go_sem, *]; done))
  have hf1_1_9 : w1.cell? ⟨w.heap.size + 1, 9, none⟩ = some (.int .i64 0) := (ha _).trans (by first | with_reducible assumption | (simp (maxDischargeDepth := 7) [go_sem]; done) | (simp (maxDischargeDepth := 7) [go_sem, *]; done))
  try have hg1_1 : ∀ o, w1.frozen? ⟨w.heap.size + 1, o, none⟩ = false := by intro o; rw [hb]; first | (simp (maxDischargeDepth := 7) [go_sem]; done) | (simp (maxDischargeDepth := 7) [go_sem, *]; done)
  clear ha hb
  go_wp2_with fail
  have B0 : OwnB w1 (w.heap.size) [.int .i64 bX, .int .i64 bY] := ⟨hz1_0, hg1_0, hf1_0_0, hf1_0_1, trivial⟩
  have HB0_0 := Lib.hid B0
  clear B0
  have B1 : OwnB w1 (w.heap.size + 1) [.int .i64 0, .int .i64 0, .int .i64 0, .int .i64 0, .int .i64 0, .int .i64 0, .int .i64 0, .int .i64 0, .int .i64 0, .int .i64 0] := ⟨hz1_1, hg1_1, hf1_1_0, hf1_1_1, hf1_1_2, hf1_1_3, hf1_1_4, hf1_1_5, hf1_1_6, hf1_1_7, hf1_1_8, hf1_1_9, trivial⟩
  have HB0_1 := Lib.hid B1
  clear B1
  go_upto_region 2 with (fail)
  go_cut [13, 14] (fun p0 c0 wx => ∃ b0 : Nat, p0 = .pointer (some ⟨b0, 0, none⟩) ∧ c0 = .int .i64 0 ∧ w.heap.size + 1 < b0 ∧ OwnB wx (b0) [.int .i64 SX, .int .i64 SY] ∧ OwnB wx (w.heap.size) [.int .i64 bX, .int .i64 bY] ∧ OwnB wx (w.heap.size + 1) [.int .i64 0, .int .i64 0, .int .i64 0, .int .i64 0, .int .i64 0, .int .i64 0, .int .i64 0, .int .i64 0, .int .i64 0, .int .i64 0] ∧ Kept w1 wx)
  case first =>
    go_region_held3 (fun W => W.cell? ⟨w.heap.size, 0, none⟩ = some (.int .i64 bX) ∧ W.cell? ⟨w.heap.size, 1, none⟩ = some (.int .i64 bY)) (first | (go_keep; done) | (simp (maxDischargeDepth := 9) [*, World.cell?_alloc_some, World.cell?_setCell_far]; done) | (simp (maxDischargeDepth := 9) [go_sem, *]; done)) (first | (go_at_call 92; with_reducible refine (HOPP.out _).mono ?_; rintro e w' ⟨rfl, rfl⟩) | (go_at_call 58; (with_reducible refine (HR1.out _).mono ?_); rintro e v1 ⟨rfl, hk⟩; have hz := hk.size; (try (refine kuse (b := w.heap.size) hk (by first | (simp; done) | (simp; omega) | omega) ?_; intro hq hg; have hy : w.heap.size < v1.heap.size := (by (try simp at hz); omega); have hn : ¬ w.heap.size = v1.heap.size := (by omega); have hm : ¬ w.heap.size = v1.heap.size + 1 := (by omega); have hn' : ¬ v1.heap.size = w.heap.size := (by omega); have hm' : ¬ v1.heap.size + 1 = w.heap.size := (by omega))); (try (refine kuse (b := w.heap.size + 1) hk (by first | (simp; done) | (simp; omega) | omega) ?_; intro hq hg; have hy : w.heap.size + 1 < v1.heap.size := (by (try simp at hz); omega); have hn : ¬ w.heap.size + 1 = v1.heap.size := (by omega); have hm : ¬ w.heap.size + 1 = v1.heap.size + 1 := (by omega); have hn' : ¬ v1.heap.size = w.heap.size + 1 := (by omega); have hm' : ¬ v1.heap.size + 1 = w.heap.size + 1 := (by omega))); (try (have hle : w1.heap.size ≤ v1.heap.size := (by (try simp at hz); omega))); (try (refine kuse (b := w1.heap.size) hk (by first | (simp; done) | (simp; omega) | omega) ?_; intro hq hg; have hy : w1.heap.size < v1.heap.size := (by (try simp at hz); omega))); (try (refine withF (p := v1.cell? ⟨w.heap.size, 0, none⟩ = some (.int .i64 bX)) (by first | (simp (maxDischargeDepth := 7) [go_sem, *]; done) | fail) ?_; intro ff)); (try (refine withF (p := v1.cell? ⟨w.heap.size, 1, none⟩ = some (.int .i64 bY)) (by first | (simp (maxDischargeDepth := 7) [go_sem, *]; done) | fail) ?_; intro ff))))
    all_goals (try go_wp2_with fail)
    all_goals (go_meet; case rel => refine (fun (hkx : Kept w1 _) => ⟨_, rfl, rfl, (by first | with_reducible assumption | omega | (simp; omega)), (by repeat (first | with_reducible exact own_alloc _ [.int .i64 SX, .int .i64 SY] 28 | with_reducible exact own_alloc _ [.int .i64 0, .int .i64 0] 28 | ((with_reducible refine own_allocE _ [.int .i64 SX, .int .i64 SY] 28 _ ?_); (simp; done)) | ((with_reducible refine own_allocE _ [.int .i64 0, .int .i64 0] 28 _ ?_); (simp; done)) | with_reducible refine own_set2 (us := [.int .i64 0, .int .i64 0]) ?_ rfl | with_reducible refine OwnB.other2 ?_ (by first | with_reducible assumption | omega | (simp; done) | (simp; omega)) | with_reducible refine OwnB.alloc ?_ _ | with_reducible refine OwnB.drew ?_ | with_reducible refine OwnB.drewN ?_ _ | with_reducible refine OwnB.kept (by with_reducible assumption) ?_)), OwnB.kept hkx HB0_0.out, OwnB.kept hkx HB0_1.out, hkx⟩) ?_; exact (by repeat (first | with_reducible exact Kept.refl _ | with_reducible assumption | with_reducible refine Kept.set12 ?_ (by first | with_reducible assumption | omega | (simp; done) | (simp; omega)) | with_reducible refine Kept.set11 ?_ (by first | with_reducible assumption | omega | (simp; done) | (simp; omega)) | with_reducible refine Kept.set10 ?_ (by first | with_reducible assumption | omega | (simp; done) | (simp; omega)) | with_reducible refine Kept.set9 ?_ (by first | with_reducible assumption | omega | (simp; done) | (simp; omega)) | with_reducible refine Kept.set8 ?_ (by first | with_reducible assumption | omega | (simp; done) | (simp; omega)) | with_reducible refine Kept.set7 ?_ (by first | with_reducible assumption | omega | (simp; done) | (simp; omega)) | with_reducible refine Kept.set6 ?_ (by first | with_reducible assumption | omega | (simp; done) | (simp; omega)) | with_reducible refine Kept.set5 ?_ (by first | with_reducible assumption | omega | (simp; done) | (simp; omega)) | with_reducible refine Kept.set4 ?_ (by first | with_reducible assumption | omega | (simp; done) | (simp; omega)) | with_reducible refine Kept.set3 ?_ (by first | with_reducible assumption | omega | (simp; done) | (simp; omega)) | with_reducible refine Kept.set2 ?_ (by first | with_reducible assumption | omega | (simp; done) | (simp; omega)) | with_reducible refine Kept.setCell ?_ (by first | with_reducible assumption | omega | (simp; done) | (simp; omega)) _ | with_reducible refine Kept.alloc ?_ _ | with_reducible refine Kept.drewN ?_ _ | with_reducible refine Kept.drew ?_ | with_reducible refine Kept.trans ?_ (by with_reducible assumption) | with_reducible refine Kept.dr ?_ (by with_reducible assumption))))
  case rest =>
  obtain ⟨b1_0, rfl, rfl, lt1_0, O1_0, O1_1, O1_2, hkc1⟩ := hcut
  obtain ⟨hz_c1_0, hg_c1_0, hf_c1_0_0, hf_c1_0_1, _⟩ := O1_0
  obtain ⟨hz_c1_1, hg_c1_1, hf_c1_1_0, hf_c1_1_1, _⟩ := O1_1
  obtain ⟨hz_c1_2, hg_c1_2, hf_c1_2_0, hf_c1_2_1, hf_c1_2_2, hf_c1_2_3, hf_c1_2_4, hf_c1_2_5, hf_c1_2_6, hf_c1_2_7, hf_c1_2_8, hf_c1_2_9, _⟩ := O1_2
  (try clear hf1_0_0); (try clear hf1_0_1); (try clear hf1_1_0); (try clear hf1_1_1); (try clear hf1_1_2); (try clear hf1_1_3); (try clear hf1_1_4); (try clear hf1_1_5); (try clear hf1_1_6); (try clear hf1_1_7); (try clear hf1_1_8); (try clear hf1_1_9); (try clear hg1_0); (try clear hg1_1); (try clear hz1_1)
  go_wp2_with fail
  with_reducible refine (HR2.out _).mono ?_
  rintro e w2 ⟨rfl, hk2⟩
  refine kuz (b := b1_0) hk2 (by first | (simp; done) | (simp; omega) | omega) ?_
  intro ha hb hz2_0 hn2_0 hm2_0
  have hf2_0_0 : w2.cell? ⟨b1_0, 0, none⟩ = some (.int .i64 SX) := (ha _).trans (by first | with_reducible assumption | (simp (maxDischargeDepth := 7) [go_sem]; done) | (simp (maxDischargeDepth := 7) [go_sem, *]; done))
  have hf2_0_1 : w2.cell? ⟨b1_0, 1, none⟩ = some (.int .i64 SY) := (ha _).trans (by first | with_reducible assumption | (simp (maxDischargeDepth := 7) [go_sem]; done) | (simp (maxDischargeDepth := 7) [go_sem, *]; done))
  try have hg2_0 : ∀ o, w2.frozen? ⟨b1_0, o, none⟩ = false := by intro o; rw [hb]; first | (simp (maxDischargeDepth := 7) [go_sem]; done) | (simp (maxDischargeDepth := 7) [go_sem, *]; done)
  clear ha hb
  refine kuz (b := w.heap.size) hk2 (by first | (simp; done) | (simp; omega) | omega) ?_
  intro ha hb hz2_1 hn2_1 hm2_1
  have hf2_1_0 : w2.cell? ⟨w.heap.size, 0, none⟩ = some (.int .i64 bX) := (ha _).trans (by first | with_reducible assumption | (simp (maxDischargeDepth := 7) [go_sem]; done) | (simp (maxDischargeDepth := 7) [go_sem, *]; done))
  have hf2_1_1 : w2.cell? ⟨w.heap.size, 1, none⟩ = some (.int .i64 bY) := (ha _).trans (by first | with_reducible assumption | (simp (maxDischargeDepth := 7) [go_sem]; done) | (simp (maxDischargeDepth := 7) [go_sem, *]; done))
  try have hg2_1 : ∀ o, w2.frozen? ⟨w.heap.size, o, none⟩ = false := by intro o; rw [hb]; first | (simp (maxDischargeDepth := 7) [go_sem]; done) | (simp (maxDischargeDepth := 7) [go_sem, *]; done)
  clear ha hb
  refine kuz (b := w.heap.size + 1) hk2 (by first | (simp; done) | (simp; omega) | omega) ?_
  intro ha hb hz2_2 hn2_2 hm2_2
  have hf2_2_0 : w2.cell? ⟨w.heap.size + 1, 0, none⟩ = some (.int .i64 0) := (ha _).trans (by first | with_reducible assumption | (simp (maxDischargeDepth := 7) [go_sem]; done) | (simp (maxDischargeDepth := 7) [go_sem, *]; done))
  have hf2_2_1 : w2.cell? ⟨w.heap.size + 1, 1, none⟩ = some (.int .i64 0) := (ha _).trans (by first | with_reducible assumption | (simp (maxDischargeDepth := 7) [go_sem]; done) | (simp (maxDischargeDepth := 7) [go_sem, *]; done))
  have hf2_2_2 : w2.cell? ⟨w.heap.size + 1, 2, none⟩ = some (.int .i64 0) := (ha _).trans (by first | with_reducible assumption | (simp (maxDischargeDepth := 7) [go_sem]; done) | (simp (maxDischargeDepth := 7) [go_sem, *]; done))
  have hf2_2_3 : w2.cell? ⟨w.heap.size + 1, 3, none⟩ = some (.int .i64 0) := (ha _).trans (by first | with_reducible assumption | (simp (maxDischargeDepth := 7) [go_sem]; done) | (simp (maxDischargeDepth := 7) [go_sem, *]; done))
  have hf2_2_4 : w2.cell? ⟨w.heap.size + 1, 4, none⟩ = some (.int .i64 0) := (ha _).trans (by first | with_reducible assumption | (simp (maxDischargeDepth := 7) [go_sem]; done) | (simp (maxDischargeDepth := 7) [go_sem, *]; done))
  have hf2_2_5 : w2.cell? ⟨w.heap.size + 1, 5, none⟩ = some (.int .i64 0) := (ha _).trans (by first | with_reducible assumption | (simp (maxDischargeDepth := 7) [go_sem]; done) | (simp (maxDischargeDepth := 7) [go_sem, *]; done))
  have hf2_2_6 : w2.cell? ⟨w.heap.size + 1, 6, none⟩ = some (.int .i64 0) := (ha _).trans (by first | with_reducible assumption | (simp (maxDischargeDepth := 7) [go_sem]; done) | (simp (maxDischargeDepth := 7) [go_sem, *]; done))
  have hf2_2_7 : w2.cell? ⟨w.heap.size + 1, 7, none⟩ = some (.int .i64 0) := (ha _).trans (by first | with_reducible assumption | (simp (maxDischargeDepth := 7) [go_sem]; done) | (simp (maxDischargeDepth := 7) [go_sem, *]; done))
  have hf2_2_8 : w2.cell? ⟨w.heap.size + 1, 8, none⟩ = some (.int .i64 0) := (ha _).trans (by first | with_reducible assumption | (simp (maxDischargeDepth := 7) [go_sem]; done) | (simp (maxDischargeDepth := 7) [go_sem, *]; done))
  have hf2_2_9 : w2.cell? ⟨w.heap.size + 1, 9, none⟩ = some (.int .i64 0) := (ha _).trans (by first | with_reducible assumption | (simp (maxDischargeDepth := 7) [go_sem]; done) | (simp (maxDischargeDepth := 7) [go_sem, *]; done))
  try have hg2_2 : ∀ o, w2.frozen? ⟨w.heap.size + 1, o, none⟩ = false := by intro o; rw [hb]; first | (simp (maxDischargeDepth := 7) [go_sem]; done) | (simp (maxDischargeDepth := 7) [go_sem, *]; done)
  clear ha hb
  (try clear hf_c1_0_0); (try clear hf_c1_0_1); (try clear hf_c1_1_0); (try clear hf_c1_1_1); (try clear hf_c1_2_0); (try clear hf_c1_2_1); (try clear hf_c1_2_2); (try clear hf_c1_2_3); (try clear hf_c1_2_4); (try clear hf_c1_2_5); (try clear hf_c1_2_6); (try clear hf_c1_2_7); (try clear hf_c1_2_8); (try clear hf_c1_2_9); (try clear hg_c1_0); (try clear hg_c1_1); (try clear hg_c1_2)
  go_wp2_with fail
  have B0 : OwnB (w2.alloc (.cells #[.int .i64 EX, .int .i64 EY] 28)) (b1_0) [.int .i64 SX, .int .i64 SY] := OwnB.alloc (show OwnB w2 (b1_0) [.int .i64 SX, .int .i64 SY] from ⟨hz2_0, hg2_0, hf2_0_0, hf2_0_1, trivial⟩) _
  have HB1_0 := Lib.hid B0
  clear B0
  have B1 : OwnB (w2.alloc (.cells #[.int .i64 EX, .int .i64 EY] 28)) (w.heap.size) [.int .i64 bX, .int .i64 bY] := OwnB.alloc (show OwnB w2 (w.heap.size) [.int .i64 bX, .int .i64 bY] from ⟨hz2_1, hg2_1, hf2_1_0, hf2_1_1, trivial⟩) _
  have HB1_1 := Lib.hid B1
  clear B1
  have B2 : OwnB (w2.alloc (.cells #[.int .i64 EX, .int .i64 EY] 28)) (w.heap.size + 1) [.int .i64 0, .int .i64 0, .int .i64 0, .int .i64 0, .int .i64 0, .int .i64 0, .int .i64 0, .int .i64 0, .int .i64 0, .int .i64 0] := OwnB.alloc (show OwnB w2 (w.heap.size + 1) [.int .i64 0, .int .i64 0, .int .i64 0, .int .i64 0, .int .i64 0, .int .i64 0, .int .i64 0, .int .i64 0, .int .i64 0, .int .i64 0] from ⟨hz2_2, hg2_2, hf2_2_0, hf2_2_1, hf2_2_2, hf2_2_3, hf2_2_4, hf2_2_5, hf2_2_6, hf2_2_7, hf2_2_8, hf2_2_9, trivial⟩) _
  have HB1_2 := Lib.hid B2
  clear B2
  have B3 : OwnB (w2.alloc (.cells #[.int .i64 EX, .int .i64 EY] 28)) (w2.heap.size) [.int .i64 EX, .int .i64 EY] := own_alloc _ [.int .i64 EX, .int .i64 EY] 28
  have HB1_3 := Lib.hid B3
  clear B3
  go_upto_region 8 with (fail)
  go_cut [16, 14] (fun p0 c0 wx => ∃ b0 : Nat, p0 = .pointer (some ⟨b0, 0, none⟩) ∧ c0 = .int .i64 0 ∧ w.heap.size + 1 < b0 ∧ OwnB wx (b0) [.int .i64 CX, .int .i64 CY] ∧ OwnB wx (b1_0) [.int .i64 SX, .int .i64 SY] ∧ OwnB wx (w.heap.size) [.int .i64 bX, .int .i64 bY] ∧ OwnB wx (w.heap.size + 1) [.int .i64 0, .int .i64 0, .int .i64 0, .int .i64 0, .int .i64 0, .int .i64 0, .int .i64 0, .int .i64 0, .int .i64 0, .int .i64 0] ∧ OwnB wx (w2.heap.size) [.int .i64 EX, .int .i64 EY] ∧ Kept (w2.alloc (.cells #[.int .i64 EX, .int .i64 EY] 28)) wx)
  case first =>
    go_region_held3 (fun W => W.cell? ⟨b1_0, 0, none⟩ = some (.int .i64 SX) ∧ W.cell? ⟨b1_0, 1, none⟩ = some (.int .i64 SY)) (first | (go_keep; done) | (simp (maxDischargeDepth := 9) [*, World.cell?_alloc_some, World.cell?_setCell_far]; done) | (simp (maxDischargeDepth := 9) [go_sem, *]; done)) (first | (go_at_call 57; with_reducible refine (HSD.out _).mono ?_; rintro e w' ⟨rfl, rfl⟩) | (go_at_call 56; with_reducible refine (HT1.out _).mono ?_; rintro e w' ⟨rfl, rfl⟩) | (go_at_call 58; (with_reducible refine (HR3.out _).mono ?_); rintro e u2 ⟨rfl, hk⟩; have hz := hk.size; (try (refine kuse (b := b1_0) hk (by first | (simp; done) | (simp; omega) | omega) ?_; intro hq hg; have hy : b1_0 < u2.heap.size := (by (try simp at hz); omega); have hn : ¬ b1_0 = u2.heap.size := (by omega); have hm : ¬ b1_0 = u2.heap.size + 1 := (by omega); have hn' : ¬ u2.heap.size = b1_0 := (by omega); have hm' : ¬ u2.heap.size + 1 = b1_0 := (by omega))); (try (refine kuse (b := w.heap.size) hk (by first | (simp; done) | (simp; omega) | omega) ?_; intro hq hg; have hy : w.heap.size < u2.heap.size := (by (try simp at hz); omega); have hn : ¬ w.heap.size = u2.heap.size := (by omega); have hm : ¬ w.heap.size = u2.heap.size + 1 := (by omega); have hn' : ¬ u2.heap.size = w.heap.size := (by omega); have hm' : ¬ u2.heap.size + 1 = w.heap.size := (by omega))); (try (refine kuse (b := w.heap.size + 1) hk (by first | (simp; done) | (simp; omega) | omega) ?_; intro hq hg; have hy : w.heap.size + 1 < u2.heap.size := (by (try simp at hz); omega); have hn : ¬ w.heap.size + 1 = u2.heap.size := (by omega); have hm : ¬ w.heap.size + 1 = u2.heap.size + 1 := (by omega); have hn' : ¬ u2.heap.size = w.heap.size + 1 := (by omega); have hm' : ¬ u2.heap.size + 1 = w.heap.size + 1 := (by omega))); (try (refine kuse (b := w2.heap.size) hk (by first | (simp; done) | (simp; omega) | omega) ?_; intro hq hg; have hy : w2.heap.size < u2.heap.size := (by (try simp at hz); omega); have hn : ¬ w2.heap.size = u2.heap.size := (by omega); have hm : ¬ w2.heap.size = u2.heap.size + 1 := (by omega); have hn' : ¬ u2.heap.size = w2.heap.size := (by omega); have hm' : ¬ u2.heap.size + 1 = w2.heap.size := (by omega))); (try (have hle : w1.heap.size ≤ u2.heap.size := (by (try simp at hz); omega))); (try (have hle : w2.heap.size ≤ u2.heap.size := (by (try simp at hz); omega))); (try (refine kuse (b := w2.heap.size + 1) hk (by first | (simp; done) | (simp; omega) | omega) ?_; intro hq hg; have hy : w2.heap.size + 1 < u2.heap.size := (by (try simp at hz); omega))); (try (refine withF (p := u2.cell? ⟨b1_0, 0, none⟩ = some (.int .i64 SX)) (by first | (simp (maxDischargeDepth := 7) [go_sem, *]; done) | fail) ?_; intro ff)); (try (refine withF (p := u2.cell? ⟨b1_0, 1, none⟩ = some (.int .i64 SY)) (by first | (simp (maxDischargeDepth := 7) [go_sem, *]; done) | fail) ?_; intro ff))))
    all_goals (try go_wp2_with fail)
    all_goals (go_meet; case rel => refine (fun (hkx : Kept (w2.alloc (.cells #[.int .i64 EX, .int .i64 EY] 28)) _) => ⟨_, rfl, rfl, (by first | with_reducible assumption | omega | (simp; omega)), (by repeat (first | with_reducible exact own_alloc _ [.int .i64 CX, .int .i64 CY] 28 | with_reducible exact own_alloc _ [.int .i64 0, .int .i64 0] 28 | ((with_reducible refine own_allocE _ [.int .i64 CX, .int .i64 CY] 28 _ ?_); (simp; done)) | ((with_reducible refine own_allocE _ [.int .i64 0, .int .i64 0] 28 _ ?_); (simp; done)) | with_reducible refine own_set2 (us := [.int .i64 0, .int .i64 0]) ?_ rfl | with_reducible refine OwnB.other2 ?_ (by first | with_reducible assumption | omega | (simp; done) | (simp; omega)) | with_reducible refine OwnB.alloc ?_ _ | with_reducible refine OwnB.drew ?_ | with_reducible refine OwnB.drewN ?_ _ | with_reducible refine OwnB.kept (by with_reducible assumption) ?_)), OwnB.kept hkx HB1_0.out, OwnB.kept hkx HB1_1.out, OwnB.kept hkx HB1_2.out, OwnB.kept hkx HB1_3.out, hkx⟩) ?_; exact (by repeat (first | with_reducible exact Kept.refl _ | with_reducible assumption | with_reducible refine Kept.set12 ?_ (by first | with_reducible assumption | omega | (simp; done) | (simp; omega)) | with_reducible refine Kept.set11 ?_ (by first | with_reducible assumption | omega | (simp; done) | (simp; omega)) | with_reducible refine Kept.set10 ?_ (by first | with_reducible assumption | omega | (simp; done) | (simp; omega)) | with_reducible refine Kept.set9 ?_ (by first | with_reducible assumption | omega | (simp; done) | (simp; omega)) | with_reducible refine Kept.set8 ?_ (by first | with_reducible assumption | omega | (simp; done) | (simp; omega)) | with_reducible refine Kept.set7 ?_ (by first | with_reducible assumption | omega | (simp; done) | (simp; omega)) | with_reducible refine Kept.set6 ?_ (by first | with_reducible assumption | omega | (simp; done) | (simp; omega)) | with_reducible refine Kept.set5 ?_ (by first | with_reducible assumption | omega | (simp; done) | (simp; omega)) | with_reducible refine Kept.set4 ?_ (by first | with_reducible assumption | omega | (simp; done) | (simp; omega)) | with_reducible refine Kept.set3 ?_ (by first | with_reducible assumption | omega | (simp; done) | (simp; omega)) | with_reducible refine Kept.set2 ?_ (by first | with_reducible assumption | omega | (simp; done) | (simp; omega)) | with_reducible refine Kept.setCell ?_ (by first | with_reducible assumption | omega | (simp; done) | (simp; omega)) _ | with_reducible refine Kept.alloc ?_ _ | with_reducible refine Kept.drewN ?_ _ | with_reducible refine Kept.drew ?_ | with_reducible refine Kept.trans ?_ (by with_reducible assumption) | with_reducible refine Kept.dr ?_ (by with_reducible assumption))))
  case rest =>
  obtain ⟨b2_0, rfl, rfl, lt2_0, O2_0, O2_1, O2_2, O2_3, O2_4, hkc2⟩ := hcut
  obtain ⟨hz_c2_0, hg_c2_0, hf_c2_0_0, hf_c2_0_1, _⟩ := O2_0
  obtain ⟨hz_c2_1, hg_c2_1, hf_c2_1_0, hf_c2_1_1, _⟩ := O2_1
  obtain ⟨hz_c2_2, hg_c2_2, hf_c2_2_0, hf_c2_2_1, _⟩ := O2_2
  obtain ⟨hz_c2_3, hg_c2_3, hf_c2_3_0, hf_c2_3_1, hf_c2_3_2, hf_c2_3_3, hf_c2_3_4, hf_c2_3_5, hf_c2_3_6, hf_c2_3_7, hf_c2_3_8, hf_c2_3_9, _⟩ := O2_3
  obtain ⟨hz_c2_4, hg_c2_4, hf_c2_4_0, hf_c2_4_1, _⟩ := O2_4
  (try clear hf2_0_0); (try clear hf2_0_1); (try clear hf2_1_0); (try clear hf2_1_1); (try clear hf2_2_0); (try clear hf2_2_1); (try clear hf2_2_2); (try clear hf2_2_3); (try clear hf2_2_4); (try clear hf2_2_5); (try clear hf2_2_6); (try clear hf2_2_7); (try clear hf2_2_8); (try clear hf2_2_9); (try clear hg2_0); (try clear hg2_1); (try clear hg2_2); (try clear hz2_1); (try clear hz2_2)
  go_wp2_with fail
  have B0 : OwnB wc (b2_0) [.int .i64 CX, .int .i64 CY] := ⟨hz_c2_0, hg_c2_0, hf_c2_0_0, hf_c2_0_1, trivial⟩
  have HB2_0 := Lib.hid B0
  clear B0
  have B1 : OwnB wc (b1_0) [.int .i64 SX, .int .i64 SY] := ⟨hz_c2_1, hg_c2_1, hf_c2_1_0, hf_c2_1_1, trivial⟩
  have HB2_1 := Lib.hid B1
  clear B1
  have B2 : OwnB wc (w.heap.size) [.int .i64 bX, .int .i64 bY] := ⟨hz_c2_2, hg_c2_2, hf_c2_2_0, hf_c2_2_1, trivial⟩
  have HB2_2 := Lib.hid B2
  clear B2
  have B3 : OwnB wc (w.heap.size + 1) [.int .i64 0, .int .i64 0, .int .i64 0, .int .i64 0, .int .i64 0, .int .i64 0, .int .i64 0, .int .i64 0, .int .i64 0, .int .i64 0] := ⟨hz_c2_3, hg_c2_3, hf_c2_3_0, hf_c2_3_1, hf_c2_3_2, hf_c2_3_3, hf_c2_3_4, hf_c2_3_5, hf_c2_3_6, hf_c2_3_7, hf_c2_3_8, hf_c2_3_9, trivial⟩
  have HB2_3 := Lib.hid B3
  clear B3
  have B4 : OwnB wc (w2.heap.size) [.int .i64 EX, .int .i64 EY] := ⟨hz_c2_4, hg_c2_4, hf_c2_4_0, hf_c2_4_1, trivial⟩
  have HB2_4 := Lib.hid B4
  clear B4
  go_upto_region 11 with (fail)
  go_cut [17] (fun p0 wx => ∃ b0 : Nat, p0 = .pointer (some ⟨b0, 0, none⟩) ∧ w.heap.size + 1 < b0 ∧ OwnB wx (b0) [.int .i64 CX, .int .i64 CY, .int .i64 r, .int .i64 FR, .int .i64 DD] ∧ OwnB wx (b2_0) [.int .i64 CX, .int .i64 CY] ∧ OwnB wx (b1_0) [.int .i64 SX, .int .i64 SY] ∧ OwnB wx (w.heap.size) [.int .i64 bX, .int .i64 bY] ∧ OwnB wx (w.heap.size + 1) [.int .i64 0, .int .i64 0, .int .i64 0, .int .i64 0, .int .i64 0, .int .i64 0, .int .i64 0, .int .i64 0, .int .i64 0, .int .i64 0] ∧ OwnB wx (w2.heap.size) [.int .i64 EX, .int .i64 EY] ∧ Kept wc wx)
  case first =>
    go_region_held3 (fun W => W.cell? ⟨b2_0, 0, none⟩ = some (.int .i64 CX) ∧ W.cell? ⟨b2_0, 1, none⟩ = some (.int .i64 CY)) (first | (go_keep; done) | (simp (maxDischargeDepth := 9) [*, World.cell?_alloc_some, World.cell?_setCell_far]; done) | (simp (maxDischargeDepth := 9) [go_sem, *]; done)) (first | (go_at_call 57; with_reducible refine (HSD.out _).mono ?_; rintro e w' ⟨rfl, rfl⟩) | (go_at_call 56; with_reducible refine (HT2.out _).mono ?_; rintro e w' ⟨rfl, rfl⟩))
    all_goals (try go_wp2_with fail)
    all_goals (go_meet; case rel => refine (fun (hkx : Kept wc _) => ⟨_, rfl, (by first | with_reducible assumption | omega | (simp; omega)), (by repeat (first | with_reducible exact own_alloc _ [.int .i64 CX, .int .i64 CY, .int .i64 r, .int .i64 FR, .int .i64 DD] 30 | with_reducible exact own_alloc _ [.int .i64 0, .int .i64 0, .int .i64 0, .int .i64 0, .int .i64 0] 30 | ((with_reducible refine own_allocE _ [.int .i64 CX, .int .i64 CY, .int .i64 r, .int .i64 FR, .int .i64 DD] 30 _ ?_); (simp; done)) | ((with_reducible refine own_allocE _ [.int .i64 0, .int .i64 0, .int .i64 0, .int .i64 0, .int .i64 0] 30 _ ?_); (simp; done)) | with_reducible refine own_set5 (us := [.int .i64 0, .int .i64 0, .int .i64 0, .int .i64 0, .int .i64 0]) ?_ rfl | with_reducible refine OwnB.other5 ?_ (by first | with_reducible assumption | omega | (simp; done) | (simp; omega)) | with_reducible refine OwnB.alloc ?_ _ | with_reducible refine OwnB.drew ?_ | with_reducible refine OwnB.drewN ?_ _ | with_reducible refine OwnB.kept (by with_reducible assumption) ?_)), OwnB.kept hkx HB2_0.out, OwnB.kept hkx HB2_1.out, OwnB.kept hkx HB2_2.out, OwnB.kept hkx HB2_3.out, OwnB.kept hkx HB2_4.out, hkx⟩) ?_; exact (by repeat (first | with_reducible exact Kept.refl _ | with_reducible assumption | with_reducible refine Kept.set12 ?_ (by first | with_reducible assumption | omega | (simp; done) | (simp; omega)) | with_reducible refine Kept.set11 ?_ (by first | with_reducible assumption | omega | (simp; done) | (simp; omega)) | with_reducible refine Kept.set10 ?_ (by first | with_reducible assumption | omega | (simp; done) | (simp; omega)) | with_reducible refine Kept.set9 ?_ (by first | with_reducible assumption | omega | (simp; done) | (simp; omega)) | with_reducible refine Kept.set8 ?_ (by first | with_reducible assumption | omega | (simp; done) | (simp; omega)) | with_reducible refine Kept.set7 ?_ (by first | with_reducible assumption | omega | (simp; done) | (simp; omega)) | with_reducible refine Kept.set6 ?_ (by first | with_reducible assumption | omega | (simp; done) | (simp; omega)) | with_reducible refine Kept.set5 ?_ (by first | with_reducible assumption | omega | (simp; done) | (simp; omega)) | with_reducible refine Kept.set4 ?_ (by first | with_reducible assumption | omega | (simp; done) | (simp; omega)) | with_reducible refine Kept.set3 ?_ (by first | with_reducible assumption | omega | (simp; done) | (simp; omega)) | with_reducible refine Kept.set2 ?_ (by first | with_reducible assumption | omega | (simp; done) | (simp; omega)) | with_reducible refine Kept.setCell ?_ (by first | with_reducible assumption | omega | (simp; done) | (simp; omega)) _ | with_reducible refine Kept.alloc ?_ _ | with_reducible refine Kept.drewN ?_ _ | with_reducible refine Kept.drew ?_ | with_reducible refine Kept.trans ?_ (by with_reducible assumption) | with_reducible refine Kept.dr ?_ (by with_reducible assumption))))
  case rest =>
  obtain ⟨b3_0, rfl, lt3_0, O3_0, O3_1, O3_2, O3_3, O3_4, O3_5, hkc3⟩ := hcut
  obtain ⟨hz_c3_0, hg_c3_0, hf_c3_0_0, hf_c3_0_1, hf_c3_0_2, hf_c3_0_3, hf_c3_0_4, _⟩ := O3_0
  obtain ⟨hz_c3_1, hg_c3_1, hf_c3_1_0, hf_c3_1_1, _⟩ := O3_1
  obtain ⟨hz_c3_2, hg_c3_2, hf_c3_2_0, hf_c3_2_1, _⟩ := O3_2
  obtain ⟨hz_c3_3, hg_c3_3, hf_c3_3_0, hf_c3_3_1, _⟩ := O3_3
  obtain ⟨hz_c3_4, hg_c3_4, hf_c3_4_0, hf_c3_4_1, hf_c3_4_2, hf_c3_4_3, hf_c3_4_4, hf_c3_4_5, hf_c3_4_6, hf_c3_4_7, hf_c3_4_8, hf_c3_4_9, _⟩ := O3_4
  obtain ⟨hz_c3_5, hg_c3_5, hf_c3_5_0, hf_c3_5_1, _⟩ := O3_5
  (try clear hf_c2_0_0); (try clear hf_c2_0_1); (try clear hf_c2_1_0); (try clear hf_c2_1_1); (try clear hf_c2_2_0); (try clear hf_c2_2_1); (try clear hf_c2_3_0); (try clear hf_c2_3_1); (try clear hf_c2_3_2); (try clear hf_c2_3_3); (try clear hf_c2_3_4); (try clear hf_c2_3_5); (try clear hf_c2_3_6); (try clear hf_c2_3_7); (try clear hf_c2_3_8); (try clear hf_c2_3_9); (try clear hf_c2_4_0); (try clear hf_c2_4_1); (try clear hg_c2_0); (try clear hg_c2_1); (try clear hg_c2_2); (try clear hg_c2_3); (try clear hg_c2_4)
  go_wp2_with fail
  all_goals exact bodyPost_ret (v := .tuple #[.agg #[.int .i64 CX, .int .i64 CY, .int .i64 r, .int .i64 FR, .int .i64 DD, .int .i64 SX, .int .i64 SY, .int .i64 EX, .int .i64 EY, .int .i64 l], .int .i64 0]) (by first | (simp [results, Try.results69, go_sem]; done) | (simp (maxDischargeDepth := 7) [results, Try.results69, go_sem, *]; done)) rfl ⟨rfl, (by repeat (first | with_reducible exact Kept.refl _ | with_reducible assumption | with_reducible refine Kept.setCell ?_ (by first | (simp; done) | (simp; omega) | omega) _ | with_reducible refine Kept.alloc ?_ _ | with_reducible refine Kept.drewN ?_ _ | with_reducible refine Kept.drew ?_ | with_reducible refine Kept.trans ?_ (by with_reducible assumption) | with_reducible refine Kept.dr ?_ (by with_reducible assumption)))⟩

end Go.Proofs.Ytfnhnlnofglkoaa
