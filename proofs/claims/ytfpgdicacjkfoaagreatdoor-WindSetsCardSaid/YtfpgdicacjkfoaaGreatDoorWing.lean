/-
  Own contracts: layer 13: the ground speeds of a set of winds: GroundIn.
-/
import Derived.Test.YtfpgdicacjkfoaaGreatDoorWine
import Derived.Test.YtfpgdicacjkfoaaGreatDoorWinb
import Derived.WalkKit
import Derived.ProofKit
import Derived.OpenShut
import Derived.WalkLawsBesides
import Derived.WalkSpells
import Derived.Lib.Hide
import Derived.Deep.DeepCutAuto
import Derived.Deep.CutBlock
import Derived.Deep.QuietTactic
import Derived.BigQuiet
import Derived.Handy
import Derived.StillTailTactics
import Derived.IntWalk
import Derived.LoopN
import Derived.Deep.RegionHeld3
namespace Go.Proofs.YtfpgdicacjkfoaaGreatDoor
open Go.ChangeShapes Go.WideShapes Go.ChangeAt Go.RowKit
set_option linter.unusedVariables false
set_option linter.unusedSimpArgs false
theorem gi_E1 {c tl th el eh nl nh : Int} (h : bxB el eh nl nh = false ∨ tl < 1 ∨ 4000 < th ∨ th < tl) : giE c tl th el eh nl nh = 1 ∧ giL c tl th el eh nl nh = 0 ∧ giH c tl th el eh nl nh = 0 := by
  have e : giE c tl th el eh nl nh = 1 := if_pos h
  exact ⟨e, by unfold giL; rw [e]; rfl, by unfold giH; rw [e]; rfl⟩
theorem gi_E2 {c tl th el eh nl nh : Int} (h : ¬ (bxB el eh nl nh = false ∨ tl < 1 ∨ 4000 < th ∨ th < tl)) (k : tl * 1024 ≤ gx1 (eCl c el eh nl nh) (eCh c el eh nl nh)) : giE c tl th el eh nl nh = 10 ∧ giL c tl th el eh nl nh = 0 ∧ giH c tl th el eh nl nh = 0 := by
  have e : giE c tl th el eh nl nh = 10 := by unfold giE; rw [if_neg h, if_pos k]
  exact ⟨e, by unfold giL; rw [e]; rfl, by unfold giH; rw [e]; rfl⟩
theorem gi_E3 {c tl th el eh nl nh : Int} (h : ¬ (bxB el eh nl nh = false ∨ tl < 1 ∨ 4000 < th ∨ th < tl)) (k : ¬ tl * 1024 ≤ gx1 (eCl c el eh nl nh) (eCh c el eh nl nh)) (l : eAl c el eh nl nh + rtU tl (gx1 (eCl c el eh nl nh) (eCh c el eh nl nh)) < 1024) : giE c tl th el eh nl nh = 10 ∧ giL c tl th el eh nl nh = 0 ∧ giH c tl th el eh nl nh = 0 := by
  have e : giE c tl th el eh nl nh = 10 := by unfold giE; rw [if_neg h, if_neg k, if_pos l]
  exact ⟨e, by unfold giL; rw [e]; rfl, by unfold giH; rw [e]; rfl⟩
theorem gi_E0 {c tl th el eh nl nh : Int} (h : ¬ (bxB el eh nl nh = false ∨ tl < 1 ∨ 4000 < th ∨ th < tl)) (k : ¬ tl * 1024 ≤ gx1 (eCl c el eh nl nh) (eCh c el eh nl nh)) (l : ¬ eAl c el eh nl nh + rtU tl (gx1 (eCl c el eh nl nh) (eCh c el eh nl nh)) < 1024) : giE c tl th el eh nl nh = 0 ∧ giL c tl th el eh nl nh = (eAl c el eh nl nh + rtU tl (gx1 (eCl c el eh nl nh) (eCh c el eh nl nh))) / 1024 ∧ giH c tl th el eh nl nh = (eAh c el eh nl nh + rtU th (gx0 (eCl c el eh nl nh) (eCh c el eh nl nh)) + 1023) / 1024 := by
  have e : giE c tl th el eh nl nh = 0 := by unfold giE; rw [if_neg h, if_neg k, if_neg l]
  exact ⟨e, if_pos e, if_pos e⟩
theorem ex_bd (c : Int) {el eh nl nh : Int} (h : bxB el eh nl nh = true) : (-819200 ≤ eAl c el eh nl nh ∧ eAl c el eh nl nh ≤ eAh c el eh nl nh ∧ eAh c el eh nl nh ≤ 819200) ∧ (-819200 ≤ eCl c el eh nl nh ∧ eCl c el eh nl nh ≤ eCh c el eh nl nh ∧ eCh c el eh nl nh ≤ 819200) := by
  obtain ⟨⟨a0, a1, a2, a3, a4⟩, b0, b1, b2, b3, b4⟩ := bxB_yes h
  have p0 := part_bd c a1 a2 b1 b2
  have p1 := part_bd c a1 a2 b3 b4
  have p2 := part_bd c a3 a4 b1 b2
  have p3 := part_bd c a3 a4 b3 b4
  unfold eAl eAh eCl eCh mn4 mx4
  omega
theorem rtU_bd (t x : Int) (t0 : 1 ≤ t) (t1 : t ≤ 4000) (x0 : 0 ≤ x) (x1 : x < t * 1024) : 0 ≤ rtU t x ∧ rtU t x ≤ 4096000 ∧ 0 ≤ t * 1024 * (t * 1024) ∧ t * 1024 * (t * 1024) ≤ 16777216000000 ∧ 0 ≤ x * x ∧ x * x ≤ t * 1024 * (t * 1024) := by
  obtain ⟨r0, r1, r2⟩ := root_bd (t * 1024) x x0 x1 (by omega) (by omega)
  have a := sq_le (a := t * 1024) (b := 4096000) (by omega) (by omega)
  have b := sq_le (a := x) (b := t * 1024) (by omega) (by omega)
  have d := Int.mul_nonneg x0 x0
  have e := sq_le (a := 0) (b := t * 1024) (by omega) (by omega)
  unfold rtU
  omega
set_option maxHeartbeats 2000000 in
set_option maxRecDepth 100000 in
theorem gi_arg (c tl th el eh nl nh : Int) (c_0 : -9223372036854775808 ≤ c) (c_1 : c ≤ 9223372036854775807) (tl_0 : -9223372036854775808 ≤ tl) (tl_1 : tl ≤ 9223372036854775807) (th_0 : -9223372036854775808 ≤ th) (th_1 : th ≤ 9223372036854775807) (h : bxB el eh nl nh = false) (w : World) : Calls Tryz.prog 23 #[.int .i64 c, .agg #[.int .i64 tl, .int .i64 th], .agg #[.int .i64 el, .int .i64 eh, .int .i64 nl, .int .i64 nh]] w fun e w' => e = .returned (.tuple #[.agg #[.int .i64 0, .int .i64 0], .int .i64 1]) ∧ Kept w w' := by
  have HB := fun W => wbox_w el eh nl nh W
  rw [h] at HB
  go_enter Tryz.func23, Tryz.ntmps23
  go_wp2_with fail
  with_reducible refine (HB _).mono ?_
  rintro e w1 ⟨rfl, hk1⟩
  refine kuse (b := w.heap.size) hk1 (by first | (simp; done) | (simp; omega) | omega) ?_
  intro ha hb
  have hz1_0 : w.heap.size < w1.heap.size := by have := hk1.size; (try simp at this); omega
  have hn1_0 : ¬ w.heap.size = w1.heap.size := by omega
  have hm1_0 : ¬ w1.heap.size = w.heap.size := by omega
  have hf1_0_0 : w1.cell? ⟨w.heap.size, 0, none⟩ = some (.int .i64 tl) := by first | (rw [ha]; with_reducible assumption) | (simp (maxDischargeDepth := 7) [go_sem, ha]; done) | (rw [ha]; assumption) | (simp (maxDischargeDepth := 7) [go_sem, ha, *]; done)
  have hf1_0_1 : w1.cell? ⟨w.heap.size, 1, none⟩ = some (.int .i64 th) := by first | (rw [ha]; with_reducible assumption) | (simp (maxDischargeDepth := 7) [go_sem, ha]; done) | (rw [ha]; assumption) | (simp (maxDischargeDepth := 7) [go_sem, ha, *]; done)
  try have hg1_0 : ∀ o, w1.frozen? ⟨w.heap.size, o, none⟩ = false := by intro o; first | (simp (maxDischargeDepth := 7) [go_sem, hb]; done) | (rw [hb]; simp (maxDischargeDepth := 7) [go_sem, *]; done)
  clear ha hb
  refine kuse (b := w.heap.size + 1) hk1 (by first | (simp; done) | (simp; omega) | omega) ?_
  intro ha hb
  have hz1_1 : w.heap.size + 1 < w1.heap.size := by have := hk1.size; (try simp at this); omega
  have hn1_1 : ¬ w.heap.size + 1 = w1.heap.size := by omega
  have hm1_1 : ¬ w1.heap.size = w.heap.size + 1 := by omega
  have hf1_1_0 : w1.cell? ⟨w.heap.size + 1, 0, none⟩ = some (.int .i64 el) := by first | (rw [ha]; with_reducible assumption) | (simp (maxDischargeDepth := 7) [go_sem, ha]; done) | (rw [ha]; assumption) | (simp (maxDischargeDepth := 7) [go_sem, ha, *]; done)
  have hf1_1_1 : w1.cell? ⟨w.heap.size + 1, 1, none⟩ = some (.int .i64 eh) := by first | (rw [ha]; with_reducible assumption) | (simp (maxDischargeDepth := 7) [go_sem, ha]; done) | (rw [ha]; assumption) | (simp (maxDischargeDepth := 7) [go_sem, ha, *]; done)
  have hf1_1_2 : w1.cell? ⟨w.heap.size + 1, 2, none⟩ = some (.int .i64 nl) := by first | (rw [ha]; with_reducible assumption) | (simp (maxDischargeDepth := 7) [go_sem, ha]; done) | (rw [ha]; assumption) | (simp (maxDischargeDepth := 7) [go_sem, ha, *]; done)
  have hf1_1_3 : w1.cell? ⟨w.heap.size + 1, 3, none⟩ = some (.int .i64 nh) := by first | (rw [ha]; with_reducible assumption) | (simp (maxDischargeDepth := 7) [go_sem, ha]; done) | (rw [ha]; assumption) | (simp (maxDischargeDepth := 7) [go_sem, ha, *]; done)
  try have hg1_1 : ∀ o, w1.frozen? ⟨w.heap.size + 1, o, none⟩ = false := by intro o; first | (simp (maxDischargeDepth := 7) [go_sem, hb]; done) | (rw [hb]; simp (maxDischargeDepth := 7) [go_sem, *]; done)
  clear ha hb
  refine kuse (b := w.heap.size + 2) hk1 (by first | (simp; done) | (simp; omega) | omega) ?_
  intro ha hb
  have hz1_2 : w.heap.size + 2 < w1.heap.size := by have := hk1.size; (try simp at this); omega
  have hn1_2 : ¬ w.heap.size + 2 = w1.heap.size := by omega
  have hm1_2 : ¬ w1.heap.size = w.heap.size + 2 := by omega
  have hf1_2_0 : w1.cell? ⟨w.heap.size + 2, 0, none⟩ = some (.int .i64 0) := by first | (rw [ha]; with_reducible assumption) | (simp (maxDischargeDepth := 7) [go_sem, ha]; done) | (rw [ha]; assumption) | (simp (maxDischargeDepth := 7) [go_sem, ha, *]; done)
  have hf1_2_1 : w1.cell? ⟨w.heap.size + 2, 1, none⟩ = some (.int .i64 0) := by first | (rw [ha]; with_reducible assumption) | (simp (maxDischargeDepth := 7) [go_sem, ha]; done) | (rw [ha]; assumption) | (simp (maxDischargeDepth := 7) [go_sem, ha, *]; done)
  try have hg1_2 : ∀ o, w1.frozen? ⟨w.heap.size + 2, o, none⟩ = false := by intro o; first | (simp (maxDischargeDepth := 7) [go_sem, hb]; done) | (rw [hb]; simp (maxDischargeDepth := 7) [go_sem, *]; done)
  clear ha hb
  go_wp2_with fail
  all_goals exact bodyPost_ret (v := .tuple #[.agg #[.int .i64 0, .int .i64 0], .int .i64 1]) (by first | (simp [results, Tryz.results23, go_sem]; done) | (simp (maxDischargeDepth := 7) [results, Tryz.results23, go_sem, *]; done)) rfl ⟨rfl, (by repeat (first | with_reducible exact Kept.refl _ | with_reducible assumption | with_reducible refine Kept.setCell ?_ (by first | (simp; done) | (simp; omega) | omega) _ | with_reducible refine Kept.alloc ?_ _ | with_reducible refine Kept.drewN ?_ _ | with_reducible refine Kept.drew ?_ | with_reducible refine Kept.trans ?_ (by with_reducible assumption) | with_reducible refine Kept.dr ?_ (by with_reducible assumption)))⟩
set_option maxHeartbeats 2000000 in
set_option maxRecDepth 100000 in
theorem gi_tas (c tl th el eh nl nh : Int) (c_0 : -9223372036854775808 ≤ c) (c_1 : c ≤ 9223372036854775807) (tl_0 : -9223372036854775808 ≤ tl) (tl_1 : tl ≤ 9223372036854775807) (th_0 : -9223372036854775808 ≤ th) (th_1 : th ≤ 9223372036854775807) (hb : bxB el eh nl nh = true) (h : tl < 1 ∨ 4000 < th ∨ th < tl) (w : World) : Calls Tryz.prog 23 #[.int .i64 c, .agg #[.int .i64 tl, .int .i64 th], .agg #[.int .i64 el, .int .i64 eh, .int .i64 nl, .int .i64 nh]] w fun e w' => e = .returned (.tuple #[.agg #[.int .i64 0, .int .i64 0], .int .i64 1]) ∧ Kept w w' := by
  rcases (show tl < 1 ∨ (1 ≤ tl ∧ 4000 < th) ∨ (1 ≤ tl ∧ th ≤ 4000 ∧ th < tl) by omega) with h | ⟨_, h⟩ | ⟨_, _, h⟩
  all_goals
    have HB := fun W => wbox_w el eh nl nh W
    rw [hb] at HB
    go_enter Tryz.func23, Tryz.ntmps23
    go_wp2_with fail
    with_reducible refine (HB _).mono ?_
    rintro e w1 ⟨rfl, hk1⟩
    refine kuse (b := w.heap.size) hk1 (by first | (simp; done) | (simp; omega) | omega) ?_
    intro ha hb
    have hz1_0 : w.heap.size < w1.heap.size := by have := hk1.size; (try simp at this); omega
    have hn1_0 : ¬ w.heap.size = w1.heap.size := by omega
    have hm1_0 : ¬ w1.heap.size = w.heap.size := by omega
    have hf1_0_0 : w1.cell? ⟨w.heap.size, 0, none⟩ = some (.int .i64 tl) := by first | (rw [ha]; with_reducible assumption) | (simp (maxDischargeDepth := 7) [go_sem, ha]; done) | (rw [ha]; assumption) | (simp (maxDischargeDepth := 7) [go_sem, ha, *]; done)
    have hf1_0_1 : w1.cell? ⟨w.heap.size, 1, none⟩ = some (.int .i64 th) := by first | (rw [ha]; with_reducible assumption) | (simp (maxDischargeDepth := 7) [go_sem, ha]; done) | (rw [ha]; assumption) | (simp (maxDischargeDepth := 7) [go_sem, ha, *]; done)
    try have hg1_0 : ∀ o, w1.frozen? ⟨w.heap.size, o, none⟩ = false := by intro o; first | (simp (maxDischargeDepth := 7) [go_sem, hb]; done) | (rw [hb]; simp (maxDischargeDepth := 7) [go_sem, *]; done)
    clear ha hb
    refine kuse (b := w.heap.size + 1) hk1 (by first | (simp; done) | (simp; omega) | omega) ?_
    intro ha hb
    have hz1_1 : w.heap.size + 1 < w1.heap.size := by have := hk1.size; (try simp at this); omega
    have hn1_1 : ¬ w.heap.size + 1 = w1.heap.size := by omega
    have hm1_1 : ¬ w1.heap.size = w.heap.size + 1 := by omega
    have hf1_1_0 : w1.cell? ⟨w.heap.size + 1, 0, none⟩ = some (.int .i64 el) := by first | (rw [ha]; with_reducible assumption) | (simp (maxDischargeDepth := 7) [go_sem, ha]; done) | (rw [ha]; assumption) | (simp (maxDischargeDepth := 7) [go_sem, ha, *]; done)
    have hf1_1_1 : w1.cell? ⟨w.heap.size + 1, 1, none⟩ = some (.int .i64 eh) := by first | (rw [ha]; with_reducible assumption) | (simp (maxDischargeDepth := 7) [go_sem, ha]; done) | (rw [ha]; assumption) | (simp (maxDischargeDepth := 7) [go_sem, ha, *]; done)
    have hf1_1_2 : w1.cell? ⟨w.heap.size + 1, 2, none⟩ = some (.int .i64 nl) := by first | (rw [ha]; with_reducible assumption) | (simp (maxDischargeDepth := 7) [go_sem, ha]; done) | (rw [ha]; assumption) | (simp (maxDischargeDepth := 7) [go_sem, ha, *]; done)
    have hf1_1_3 : w1.cell? ⟨w.heap.size + 1, 3, none⟩ = some (.int .i64 nh) := by first | (rw [ha]; with_reducible assumption) | (simp (maxDischargeDepth := 7) [go_sem, ha]; done) | (rw [ha]; assumption) | (simp (maxDischargeDepth := 7) [go_sem, ha, *]; done)
    try have hg1_1 : ∀ o, w1.frozen? ⟨w.heap.size + 1, o, none⟩ = false := by intro o; first | (simp (maxDischargeDepth := 7) [go_sem, hb]; done) | (rw [hb]; simp (maxDischargeDepth := 7) [go_sem, *]; done)
    clear ha hb
    refine kuse (b := w.heap.size + 2) hk1 (by first | (simp; done) | (simp; omega) | omega) ?_
    intro ha hb
    have hz1_2 : w.heap.size + 2 < w1.heap.size := by have := hk1.size; (try simp at this); omega
    have hn1_2 : ¬ w.heap.size + 2 = w1.heap.size := by omega
    have hm1_2 : ¬ w1.heap.size = w.heap.size + 2 := by omega
    have hf1_2_0 : w1.cell? ⟨w.heap.size + 2, 0, none⟩ = some (.int .i64 0) := by first | (rw [ha]; with_reducible assumption) | (simp (maxDischargeDepth := 7) [go_sem, ha]; done) | (rw [ha]; assumption) | (simp (maxDischargeDepth := 7) [go_sem, ha, *]; done)
    have hf1_2_1 : w1.cell? ⟨w.heap.size + 2, 1, none⟩ = some (.int .i64 0) := by first | (rw [ha]; with_reducible assumption) | (simp (maxDischargeDepth := 7) [go_sem, ha]; done) | (rw [ha]; assumption) | (simp (maxDischargeDepth := 7) [go_sem, ha, *]; done)
    try have hg1_2 : ∀ o, w1.frozen? ⟨w.heap.size + 2, o, none⟩ = false := by intro o; first | (simp (maxDischargeDepth := 7) [go_sem, hb]; done) | (rw [hb]; simp (maxDischargeDepth := 7) [go_sem, *]; done)
    clear ha hb
    go_wp2_with fail
    all_goals exact bodyPost_ret (v := .tuple #[.agg #[.int .i64 0, .int .i64 0], .int .i64 1]) (by first | (simp [results, Tryz.results23, go_sem]; done) | (simp (maxDischargeDepth := 7) [results, Tryz.results23, go_sem, *]; done)) rfl ⟨rfl, (by repeat (first | with_reducible exact Kept.refl _ | with_reducible assumption | with_reducible refine Kept.setCell ?_ (by first | (simp; done) | (simp; omega) | omega) _ | with_reducible refine Kept.alloc ?_ _ | with_reducible refine Kept.drewN ?_ _ | with_reducible refine Kept.drew ?_ | with_reducible refine Kept.trans ?_ (by with_reducible assumption) | with_reducible refine Kept.dr ?_ (by with_reducible assumption)))⟩
set_option maxHeartbeats 8000000 in
set_option maxRecDepth 100000 in
theorem gi_g1 (c tl th el eh nl nh : Int) (c_0 : -9223372036854775808 ≤ c) (c_1 : c ≤ 9223372036854775807) (hb : bxB el eh nl nh = true) (t0 : 1 ≤ tl) (t1 : th ≤ 4000) (t2 : tl ≤ th) (k : tl * 1024 ≤ gx1 (eCl c el eh nl nh) (eCh c el eh nl nh)) (w : World) : Calls Tryz.prog 23 #[.int .i64 c, .agg #[.int .i64 tl, .int .i64 th], .agg #[.int .i64 el, .int .i64 eh, .int .i64 nl, .int .i64 nh]] w fun e w' => e = .returned (.tuple #[.agg #[.int .i64 0, .int .i64 0], .int .i64 10]) ∧ Kept w w' := by
  obtain ⟨⟨e0, e1, e2, e3, e4⟩, n0, n1, n2, n3, n4⟩ := bxB_yes hb
  obtain ⟨⟨a0, a1, a2⟩, d0, d1, d2⟩ := ex_bd c hb
  have HX := Lib.hid (extremes_w c el eh nl nh c_0 c_1 e0 e1 e2 e3 e4 n0 n1 n2 n3 n4)
  have HB := fun W => wbox_w el eh nl nh W
  rw [hb] at HB
  obtain ⟨A, qA⟩ : ∃ A, eAl c el eh nl nh = A := ⟨_, rfl⟩
  obtain ⟨B, qB⟩ : ∃ B, eAh c el eh nl nh = B := ⟨_, rfl⟩
  obtain ⟨C, qC⟩ : ∃ C, eCl c el eh nl nh = C := ⟨_, rfl⟩
  obtain ⟨D, qD⟩ : ∃ D, eCh c el eh nl nh = D := ⟨_, rfl⟩
  rw [qA, qB, qC, qD] at HX
  rw [qC, qD] at k
  rw [qA, qB] at a1
  rw [qA] at a0
  rw [qB] at a2
  rw [qC, qD] at d1
  rw [qC] at d0
  rw [qD] at d2
  have i0 := iabs_lim C (by omega) (by omega)
  have i1 := iabs_lim D (by omega) (by omega)
  have A1 := Lib.hid (abs_w C (by omega) (by omega))
  have A2 := Lib.hid (abs_w D (by omega) (by omega))
  rw [sat_iabs C (by omega) (by omega)] at A1
  rw [sat_iabs D (by omega) (by omega)] at A2
  obtain ⟨x1, qx⟩ : ∃ x, gx1 C D = x := ⟨_, rfl⟩
  obtain ⟨x0, qy⟩ : ∃ x, gx0 C D = x := ⟨_, rfl⟩
  have X0 : 0 ≤ x0 ∧ x0 ≤ x1 := by rw [← qx, ← qy]; unfold gx1 gx0; split <;> omega
  rw [qx] at k
  obtain ⟨I0, qI⟩ : ∃ x, iabs C = x := ⟨_, rfl⟩
  obtain ⟨I1, qJ⟩ : ∃ x, iabs D = x := ⟨_, rfl⟩
  rw [qI] at A1 i0
  rw [qJ] at A2 i1
  have qx' : mxi I0 I1 = x1 := by rw [← qx, ← qI, ← qJ]; rfl
  have b1 : ∀ (ts : Array TypeId) (ty : TypeId) (w : World), (Builtin.max_ ts ty #[.int .i64 I0, .int .i64 I1]).run Tryz.prog w = .ok (.int .i64 x1) w := fun ts ty w => by rw [run_mx2, qx']
  have wu : IntKind.i64.wrap (tl * 1024) = tl * 1024 := IntWalk.i64_in _ (by omega)
  have wv : IntKind.i64.wrap (th * 1024) = th * 1024 := IntWalk.i64_in _ (by omega)
  obtain ⟨u, qu⟩ : ∃ u, tl * 1024 = u := ⟨_, rfl⟩
  obtain ⟨v, qv⟩ : ∃ v, th * 1024 = v := ⟨_, rfl⟩
  rw [qu] at wu k
  rw [qv] at wv
  clear qA qB qC qD hb
  rcases (show 0 < C ∨ (C ≤ 0 ∧ D < 0) ∨ (C ≤ 0 ∧ 0 ≤ D) by omega) with z | ⟨z, z'⟩ | ⟨z, z'⟩
  · have qz : mni I0 I1 = x0 := by rw [← qy]; unfold gx0; rw [if_pos (by omega), qI, qJ]; rfl
    have b2 : ∀ (ts : Array TypeId) (ty : TypeId) (w : World), (Builtin.min_ ts ty #[.int .i64 I0, .int .i64 I1]).run Tryz.prog w = .ok (.int .i64 x0) w := fun ts ty w => by rw [run_mn2, qz]
    clear qy qz qx qx' qI qJ
    go_enter Tryz.func23, Tryz.ntmps23
    go_wp2_with fail
    with_reducible refine (HB _).mono ?_
    rintro e w1 ⟨rfl, hk1⟩
    refine kuse (b := w.heap.size) hk1 (by first | (simp; done) | (simp; omega) | omega) ?_
    intro ha hb
    have hz1_0 : w.heap.size < w1.heap.size := by have := hk1.size; (try simp at this); omega
    have hn1_0 : ¬ w.heap.size = w1.heap.size := by omega
    have hm1_0 : ¬ w1.heap.size = w.heap.size := by omega
    have hf1_0_0 : w1.cell? ⟨w.heap.size, 0, none⟩ = some (.int .i64 tl) := by first | (rw [ha]; with_reducible assumption) | (simp (maxDischargeDepth := 7) [go_sem, ha]; done) | (rw [ha]; assumption) | (simp (maxDischargeDepth := 7) [go_sem, ha, *]; done)
    have hf1_0_1 : w1.cell? ⟨w.heap.size, 1, none⟩ = some (.int .i64 th) := by first | (rw [ha]; with_reducible assumption) | (simp (maxDischargeDepth := 7) [go_sem, ha]; done) | (rw [ha]; assumption) | (simp (maxDischargeDepth := 7) [go_sem, ha, *]; done)
    try have hg1_0 : ∀ o, w1.frozen? ⟨w.heap.size, o, none⟩ = false := by intro o; first | (simp (maxDischargeDepth := 7) [go_sem, hb]; done) | (rw [hb]; simp (maxDischargeDepth := 7) [go_sem, *]; done)
    clear ha hb
    refine kuse (b := w.heap.size + 1) hk1 (by first | (simp; done) | (simp; omega) | omega) ?_
    intro ha hb
    have hz1_1 : w.heap.size + 1 < w1.heap.size := by have := hk1.size; (try simp at this); omega
    have hn1_1 : ¬ w.heap.size + 1 = w1.heap.size := by omega
    have hm1_1 : ¬ w1.heap.size = w.heap.size + 1 := by omega
    have hf1_1_0 : w1.cell? ⟨w.heap.size + 1, 0, none⟩ = some (.int .i64 el) := by first | (rw [ha]; with_reducible assumption) | (simp (maxDischargeDepth := 7) [go_sem, ha]; done) | (rw [ha]; assumption) | (simp (maxDischargeDepth := 7) [go_sem, ha, *]; done)
    have hf1_1_1 : w1.cell? ⟨w.heap.size + 1, 1, none⟩ = some (.int .i64 eh) := by first | (rw [ha]; with_reducible assumption) | (simp (maxDischargeDepth := 7) [go_sem, ha]; done) | (rw [ha]; assumption) | (simp (maxDischargeDepth := 7) [go_sem, ha, *]; done)
    have hf1_1_2 : w1.cell? ⟨w.heap.size + 1, 2, none⟩ = some (.int .i64 nl) := by first | (rw [ha]; with_reducible assumption) | (simp (maxDischargeDepth := 7) [go_sem, ha]; done) | (rw [ha]; assumption) | (simp (maxDischargeDepth := 7) [go_sem, ha, *]; done)
    have hf1_1_3 : w1.cell? ⟨w.heap.size + 1, 3, none⟩ = some (.int .i64 nh) := by first | (rw [ha]; with_reducible assumption) | (simp (maxDischargeDepth := 7) [go_sem, ha]; done) | (rw [ha]; assumption) | (simp (maxDischargeDepth := 7) [go_sem, ha, *]; done)
    try have hg1_1 : ∀ o, w1.frozen? ⟨w.heap.size + 1, o, none⟩ = false := by intro o; first | (simp (maxDischargeDepth := 7) [go_sem, hb]; done) | (rw [hb]; simp (maxDischargeDepth := 7) [go_sem, *]; done)
    clear ha hb
    refine kuse (b := w.heap.size + 2) hk1 (by first | (simp; done) | (simp; omega) | omega) ?_
    intro ha hb
    have hz1_2 : w.heap.size + 2 < w1.heap.size := by have := hk1.size; (try simp at this); omega
    have hn1_2 : ¬ w.heap.size + 2 = w1.heap.size := by omega
    have hm1_2 : ¬ w1.heap.size = w.heap.size + 2 := by omega
    have hf1_2_0 : w1.cell? ⟨w.heap.size + 2, 0, none⟩ = some (.int .i64 0) := by first | (rw [ha]; with_reducible assumption) | (simp (maxDischargeDepth := 7) [go_sem, ha]; done) | (rw [ha]; assumption) | (simp (maxDischargeDepth := 7) [go_sem, ha, *]; done)
    have hf1_2_1 : w1.cell? ⟨w.heap.size + 2, 1, none⟩ = some (.int .i64 0) := by first | (rw [ha]; with_reducible assumption) | (simp (maxDischargeDepth := 7) [go_sem, ha]; done) | (rw [ha]; assumption) | (simp (maxDischargeDepth := 7) [go_sem, ha, *]; done)
    try have hg1_2 : ∀ o, w1.frozen? ⟨w.heap.size + 2, o, none⟩ = false := by intro o; first | (simp (maxDischargeDepth := 7) [go_sem, hb]; done) | (rw [hb]; simp (maxDischargeDepth := 7) [go_sem, *]; done)
    clear ha hb
    go_wp2_with fail
    with_reducible refine (HX.out _).mono ?_
    rintro e w2 ⟨rfl, hk2⟩
    refine kuse (b := w.heap.size) hk2 (by first | (simp; done) | (simp; omega) | omega) ?_
    intro ha hb
    have hz2_0 : w.heap.size < w2.heap.size := by have := hk2.size; (try simp at this); omega
    have hn2_0 : ¬ w.heap.size = w2.heap.size := by omega
    have hm2_0 : ¬ w2.heap.size = w.heap.size := by omega
    have hf2_0_0 : w2.cell? ⟨w.heap.size, 0, none⟩ = some (.int .i64 tl) := by first | (rw [ha]; with_reducible assumption) | (simp (maxDischargeDepth := 7) [go_sem, ha]; done) | (rw [ha]; assumption) | (simp (maxDischargeDepth := 7) [go_sem, ha, *]; done)
    have hf2_0_1 : w2.cell? ⟨w.heap.size, 1, none⟩ = some (.int .i64 th) := by first | (rw [ha]; with_reducible assumption) | (simp (maxDischargeDepth := 7) [go_sem, ha]; done) | (rw [ha]; assumption) | (simp (maxDischargeDepth := 7) [go_sem, ha, *]; done)
    try have hg2_0 : ∀ o, w2.frozen? ⟨w.heap.size, o, none⟩ = false := by intro o; first | (simp (maxDischargeDepth := 7) [go_sem, hb]; done) | (rw [hb]; simp (maxDischargeDepth := 7) [go_sem, *]; done)
    clear ha hb
    refine kuse (b := w.heap.size + 1) hk2 (by first | (simp; done) | (simp; omega) | omega) ?_
    intro ha hb
    have hz2_1 : w.heap.size + 1 < w2.heap.size := by have := hk2.size; (try simp at this); omega
    have hn2_1 : ¬ w.heap.size + 1 = w2.heap.size := by omega
    have hm2_1 : ¬ w2.heap.size = w.heap.size + 1 := by omega
    have hf2_1_0 : w2.cell? ⟨w.heap.size + 1, 0, none⟩ = some (.int .i64 el) := by first | (rw [ha]; with_reducible assumption) | (simp (maxDischargeDepth := 7) [go_sem, ha]; done) | (rw [ha]; assumption) | (simp (maxDischargeDepth := 7) [go_sem, ha, *]; done)
    have hf2_1_1 : w2.cell? ⟨w.heap.size + 1, 1, none⟩ = some (.int .i64 eh) := by first | (rw [ha]; with_reducible assumption) | (simp (maxDischargeDepth := 7) [go_sem, ha]; done) | (rw [ha]; assumption) | (simp (maxDischargeDepth := 7) [go_sem, ha, *]; done)
    have hf2_1_2 : w2.cell? ⟨w.heap.size + 1, 2, none⟩ = some (.int .i64 nl) := by first | (rw [ha]; with_reducible assumption) | (simp (maxDischargeDepth := 7) [go_sem, ha]; done) | (rw [ha]; assumption) | (simp (maxDischargeDepth := 7) [go_sem, ha, *]; done)
    have hf2_1_3 : w2.cell? ⟨w.heap.size + 1, 3, none⟩ = some (.int .i64 nh) := by first | (rw [ha]; with_reducible assumption) | (simp (maxDischargeDepth := 7) [go_sem, ha]; done) | (rw [ha]; assumption) | (simp (maxDischargeDepth := 7) [go_sem, ha, *]; done)
    try have hg2_1 : ∀ o, w2.frozen? ⟨w.heap.size + 1, o, none⟩ = false := by intro o; first | (simp (maxDischargeDepth := 7) [go_sem, hb]; done) | (rw [hb]; simp (maxDischargeDepth := 7) [go_sem, *]; done)
    clear ha hb
    refine kuse (b := w.heap.size + 2) hk2 (by first | (simp; done) | (simp; omega) | omega) ?_
    intro ha hb
    have hz2_2 : w.heap.size + 2 < w2.heap.size := by have := hk2.size; (try simp at this); omega
    have hn2_2 : ¬ w.heap.size + 2 = w2.heap.size := by omega
    have hm2_2 : ¬ w2.heap.size = w.heap.size + 2 := by omega
    have hf2_2_0 : w2.cell? ⟨w.heap.size + 2, 0, none⟩ = some (.int .i64 0) := by first | (rw [ha]; with_reducible assumption) | (simp (maxDischargeDepth := 7) [go_sem, ha]; done) | (rw [ha]; assumption) | (simp (maxDischargeDepth := 7) [go_sem, ha, *]; done)
    have hf2_2_1 : w2.cell? ⟨w.heap.size + 2, 1, none⟩ = some (.int .i64 0) := by first | (rw [ha]; with_reducible assumption) | (simp (maxDischargeDepth := 7) [go_sem, ha]; done) | (rw [ha]; assumption) | (simp (maxDischargeDepth := 7) [go_sem, ha, *]; done)
    try have hg2_2 : ∀ o, w2.frozen? ⟨w.heap.size + 2, o, none⟩ = false := by intro o; first | (simp (maxDischargeDepth := 7) [go_sem, hb]; done) | (rw [hb]; simp (maxDischargeDepth := 7) [go_sem, *]; done)
    clear ha hb
    try clear hf1_0_0
    try clear hf1_0_1
    try clear hf1_1_0
    try clear hf1_1_1
    try clear hf1_1_2
    try clear hf1_1_3
    try clear hf1_2_0
    try clear hf1_2_1
    try clear hg1_0
    try clear hg1_1
    try clear hg1_2
    try clear hz1_1
    try clear hz1_2
    go_wp2_with fail
    go_region_held3 (fun W => W.cell? ⟨w2.heap.size + 1, 0, none⟩ = some (.int .i64 C) ∧ W.cell? ⟨w2.heap.size + 1, 1, none⟩ = some (.int .i64 D)) (first | (go_keep; done) | (simp (maxDischargeDepth := 9) [*, World.cell?_alloc_some, World.cell?_setCell_far]; done) | (simp (maxDischargeDepth := 9) [go_sem, *]; done)) (first | (go_at_call 40; with_reducible refine (A1.out _).mono ?_; rintro e w' ⟨rfl, rfl⟩) | (go_at_call 40; with_reducible refine (A2.out _).mono ?_; rintro e w' ⟨rfl, rfl⟩))
    all_goals go_wp2_with fail
    go_region_held3 (fun W => W.cell? ⟨w2.heap.size + 1, 0, none⟩ = some (.int .i64 C) ∧ W.cell? ⟨w2.heap.size + 1, 1, none⟩ = some (.int .i64 D)) (first | (go_keep; done) | (simp (maxDischargeDepth := 9) [*, World.cell?_alloc_some, World.cell?_setCell_far]; done) | (simp (maxDischargeDepth := 9) [go_sem, *]; done)) (first | (go_at_call 40; with_reducible refine (A1.out _).mono ?_; rintro e w' ⟨rfl, rfl⟩) | (go_at_call 40; with_reducible refine (A2.out _).mono ?_; rintro e w' ⟨rfl, rfl⟩))
    all_goals go_wp2_with fail
    go_quiet (fail)
    all_goals go_wp2_with fail
    all_goals exact bodyPost_ret (v := .tuple #[.agg #[.int .i64 0, .int .i64 0], .int .i64 10]) (by first | (simp [results, Tryz.results23, go_sem]; done) | (simp (maxDischargeDepth := 7) [results, Tryz.results23, go_sem, *]; done)) rfl ⟨rfl, (by repeat (first | with_reducible exact Kept.refl _ | with_reducible assumption | with_reducible refine Kept.setCell ?_ (by first | (simp; done) | (simp; omega) | omega) _ | with_reducible refine Kept.alloc ?_ _ | with_reducible refine Kept.drewN ?_ _ | with_reducible refine Kept.drew ?_ | with_reducible refine Kept.trans ?_ (by with_reducible assumption) | with_reducible refine Kept.dr ?_ (by with_reducible assumption)))⟩
  · have qz : mni I0 I1 = x0 := by rw [← qy]; unfold gx0; rw [if_pos (by omega), qI, qJ]; rfl
    have b2 : ∀ (ts : Array TypeId) (ty : TypeId) (w : World), (Builtin.min_ ts ty #[.int .i64 I0, .int .i64 I1]).run Tryz.prog w = .ok (.int .i64 x0) w := fun ts ty w => by rw [run_mn2, qz]
    clear qy qz qx qx' qI qJ
    go_enter Tryz.func23, Tryz.ntmps23
    go_wp2_with fail
    with_reducible refine (HB _).mono ?_
    rintro e w1 ⟨rfl, hk1⟩
    refine kuse (b := w.heap.size) hk1 (by first | (simp; done) | (simp; omega) | omega) ?_
    intro ha hb
    have hz1_0 : w.heap.size < w1.heap.size := by have := hk1.size; (try simp at this); omega
    have hn1_0 : ¬ w.heap.size = w1.heap.size := by omega
    have hm1_0 : ¬ w1.heap.size = w.heap.size := by omega
    have hf1_0_0 : w1.cell? ⟨w.heap.size, 0, none⟩ = some (.int .i64 tl) := by first | (rw [ha]; with_reducible assumption) | (simp (maxDischargeDepth := 7) [go_sem, ha]; done) | (rw [ha]; assumption) | (simp (maxDischargeDepth := 7) [go_sem, ha, *]; done)
    have hf1_0_1 : w1.cell? ⟨w.heap.size, 1, none⟩ = some (.int .i64 th) := by first | (rw [ha]; with_reducible assumption) | (simp (maxDischargeDepth := 7) [go_sem, ha]; done) | (rw [ha]; assumption) | (simp (maxDischargeDepth := 7) [go_sem, ha, *]; done)
    try have hg1_0 : ∀ o, w1.frozen? ⟨w.heap.size, o, none⟩ = false := by intro o; first | (simp (maxDischargeDepth := 7) [go_sem, hb]; done) | (rw [hb]; simp (maxDischargeDepth := 7) [go_sem, *]; done)
    clear ha hb
    refine kuse (b := w.heap.size + 1) hk1 (by first | (simp; done) | (simp; omega) | omega) ?_
    intro ha hb
    have hz1_1 : w.heap.size + 1 < w1.heap.size := by have := hk1.size; (try simp at this); omega
    have hn1_1 : ¬ w.heap.size + 1 = w1.heap.size := by omega
    have hm1_1 : ¬ w1.heap.size = w.heap.size + 1 := by omega
    have hf1_1_0 : w1.cell? ⟨w.heap.size + 1, 0, none⟩ = some (.int .i64 el) := by first | (rw [ha]; with_reducible assumption) | (simp (maxDischargeDepth := 7) [go_sem, ha]; done) | (rw [ha]; assumption) | (simp (maxDischargeDepth := 7) [go_sem, ha, *]; done)
    have hf1_1_1 : w1.cell? ⟨w.heap.size + 1, 1, none⟩ = some (.int .i64 eh) := by first | (rw [ha]; with_reducible assumption) | (simp (maxDischargeDepth := 7) [go_sem, ha]; done) | (rw [ha]; assumption) | (simp (maxDischargeDepth := 7) [go_sem, ha, *]; done)
    have hf1_1_2 : w1.cell? ⟨w.heap.size + 1, 2, none⟩ = some (.int .i64 nl) := by first | (rw [ha]; with_reducible assumption) | (simp (maxDischargeDepth := 7) [go_sem, ha]; done) | (rw [ha]; assumption) | (simp (maxDischargeDepth := 7) [go_sem, ha, *]; done)
    have hf1_1_3 : w1.cell? ⟨w.heap.size + 1, 3, none⟩ = some (.int .i64 nh) := by first | (rw [ha]; with_reducible assumption) | (simp (maxDischargeDepth := 7) [go_sem, ha]; done) | (rw [ha]; assumption) | (simp (maxDischargeDepth := 7) [go_sem, ha, *]; done)
    try have hg1_1 : ∀ o, w1.frozen? ⟨w.heap.size + 1, o, none⟩ = false := by intro o; first | (simp (maxDischargeDepth := 7) [go_sem, hb]; done) | (rw [hb]; simp (maxDischargeDepth := 7) [go_sem, *]; done)
    clear ha hb
    refine kuse (b := w.heap.size + 2) hk1 (by first | (simp; done) | (simp; omega) | omega) ?_
    intro ha hb
    have hz1_2 : w.heap.size + 2 < w1.heap.size := by have := hk1.size; (try simp at this); omega
    have hn1_2 : ¬ w.heap.size + 2 = w1.heap.size := by omega
    have hm1_2 : ¬ w1.heap.size = w.heap.size + 2 := by omega
    have hf1_2_0 : w1.cell? ⟨w.heap.size + 2, 0, none⟩ = some (.int .i64 0) := by first | (rw [ha]; with_reducible assumption) | (simp (maxDischargeDepth := 7) [go_sem, ha]; done) | (rw [ha]; assumption) | (simp (maxDischargeDepth := 7) [go_sem, ha, *]; done)
    have hf1_2_1 : w1.cell? ⟨w.heap.size + 2, 1, none⟩ = some (.int .i64 0) := by first | (rw [ha]; with_reducible assumption) | (simp (maxDischargeDepth := 7) [go_sem, ha]; done) | (rw [ha]; assumption) | (simp (maxDischargeDepth := 7) [go_sem, ha, *]; done)
    try have hg1_2 : ∀ o, w1.frozen? ⟨w.heap.size + 2, o, none⟩ = false := by intro o; first | (simp (maxDischargeDepth := 7) [go_sem, hb]; done) | (rw [hb]; simp (maxDischargeDepth := 7) [go_sem, *]; done)
    clear ha hb
    go_wp2_with fail
    with_reducible refine (HX.out _).mono ?_
    rintro e w2 ⟨rfl, hk2⟩
    refine kuse (b := w.heap.size) hk2 (by first | (simp; done) | (simp; omega) | omega) ?_
    intro ha hb
    have hz2_0 : w.heap.size < w2.heap.size := by have := hk2.size; (try simp at this); omega
    have hn2_0 : ¬ w.heap.size = w2.heap.size := by omega
    have hm2_0 : ¬ w2.heap.size = w.heap.size := by omega
    have hf2_0_0 : w2.cell? ⟨w.heap.size, 0, none⟩ = some (.int .i64 tl) := by first | (rw [ha]; with_reducible assumption) | (simp (maxDischargeDepth := 7) [go_sem, ha]; done) | (rw [ha]; assumption) | (simp (maxDischargeDepth := 7) [go_sem, ha, *]; done)
    have hf2_0_1 : w2.cell? ⟨w.heap.size, 1, none⟩ = some (.int .i64 th) := by first | (rw [ha]; with_reducible assumption) | (simp (maxDischargeDepth := 7) [go_sem, ha]; done) | (rw [ha]; assumption) | (simp (maxDischargeDepth := 7) [go_sem, ha, *]; done)
    try have hg2_0 : ∀ o, w2.frozen? ⟨w.heap.size, o, none⟩ = false := by intro o; first | (simp (maxDischargeDepth := 7) [go_sem, hb]; done) | (rw [hb]; simp (maxDischargeDepth := 7) [go_sem, *]; done)
    clear ha hb
    refine kuse (b := w.heap.size + 1) hk2 (by first | (simp; done) | (simp; omega) | omega) ?_
    intro ha hb
    have hz2_1 : w.heap.size + 1 < w2.heap.size := by have := hk2.size; (try simp at this); omega
    have hn2_1 : ¬ w.heap.size + 1 = w2.heap.size := by omega
    have hm2_1 : ¬ w2.heap.size = w.heap.size + 1 := by omega
    have hf2_1_0 : w2.cell? ⟨w.heap.size + 1, 0, none⟩ = some (.int .i64 el) := by first | (rw [ha]; with_reducible assumption) | (simp (maxDischargeDepth := 7) [go_sem, ha]; done) | (rw [ha]; assumption) | (simp (maxDischargeDepth := 7) [go_sem, ha, *]; done)
    have hf2_1_1 : w2.cell? ⟨w.heap.size + 1, 1, none⟩ = some (.int .i64 eh) := by first | (rw [ha]; with_reducible assumption) | (simp (maxDischargeDepth := 7) [go_sem, ha]; done) | (rw [ha]; assumption) | (simp (maxDischargeDepth := 7) [go_sem, ha, *]; done)
    have hf2_1_2 : w2.cell? ⟨w.heap.size + 1, 2, none⟩ = some (.int .i64 nl) := by first | (rw [ha]; with_reducible assumption) | (simp (maxDischargeDepth := 7) [go_sem, ha]; done) | (rw [ha]; assumption) | (simp (maxDischargeDepth := 7) [go_sem, ha, *]; done)
    have hf2_1_3 : w2.cell? ⟨w.heap.size + 1, 3, none⟩ = some (.int .i64 nh) := by first | (rw [ha]; with_reducible assumption) | (simp (maxDischargeDepth := 7) [go_sem, ha]; done) | (rw [ha]; assumption) | (simp (maxDischargeDepth := 7) [go_sem, ha, *]; done)
    try have hg2_1 : ∀ o, w2.frozen? ⟨w.heap.size + 1, o, none⟩ = false := by intro o; first | (simp (maxDischargeDepth := 7) [go_sem, hb]; done) | (rw [hb]; simp (maxDischargeDepth := 7) [go_sem, *]; done)
    clear ha hb
    refine kuse (b := w.heap.size + 2) hk2 (by first | (simp; done) | (simp; omega) | omega) ?_
    intro ha hb
    have hz2_2 : w.heap.size + 2 < w2.heap.size := by have := hk2.size; (try simp at this); omega
    have hn2_2 : ¬ w.heap.size + 2 = w2.heap.size := by omega
    have hm2_2 : ¬ w2.heap.size = w.heap.size + 2 := by omega
    have hf2_2_0 : w2.cell? ⟨w.heap.size + 2, 0, none⟩ = some (.int .i64 0) := by first | (rw [ha]; with_reducible assumption) | (simp (maxDischargeDepth := 7) [go_sem, ha]; done) | (rw [ha]; assumption) | (simp (maxDischargeDepth := 7) [go_sem, ha, *]; done)
    have hf2_2_1 : w2.cell? ⟨w.heap.size + 2, 1, none⟩ = some (.int .i64 0) := by first | (rw [ha]; with_reducible assumption) | (simp (maxDischargeDepth := 7) [go_sem, ha]; done) | (rw [ha]; assumption) | (simp (maxDischargeDepth := 7) [go_sem, ha, *]; done)
    try have hg2_2 : ∀ o, w2.frozen? ⟨w.heap.size + 2, o, none⟩ = false := by intro o; first | (simp (maxDischargeDepth := 7) [go_sem, hb]; done) | (rw [hb]; simp (maxDischargeDepth := 7) [go_sem, *]; done)
    clear ha hb
    try clear hf1_0_0
    try clear hf1_0_1
    try clear hf1_1_0
    try clear hf1_1_1
    try clear hf1_1_2
    try clear hf1_1_3
    try clear hf1_2_0
    try clear hf1_2_1
    try clear hg1_0
    try clear hg1_1
    try clear hg1_2
    try clear hz1_1
    try clear hz1_2
    go_wp2_with fail
    go_region_held3 (fun W => W.cell? ⟨w2.heap.size + 1, 0, none⟩ = some (.int .i64 C) ∧ W.cell? ⟨w2.heap.size + 1, 1, none⟩ = some (.int .i64 D)) (first | (go_keep; done) | (simp (maxDischargeDepth := 9) [*, World.cell?_alloc_some, World.cell?_setCell_far]; done) | (simp (maxDischargeDepth := 9) [go_sem, *]; done)) (first | (go_at_call 40; with_reducible refine (A1.out _).mono ?_; rintro e w' ⟨rfl, rfl⟩) | (go_at_call 40; with_reducible refine (A2.out _).mono ?_; rintro e w' ⟨rfl, rfl⟩))
    all_goals go_wp2_with fail
    go_region_held3 (fun W => W.cell? ⟨w2.heap.size + 1, 0, none⟩ = some (.int .i64 C) ∧ W.cell? ⟨w2.heap.size + 1, 1, none⟩ = some (.int .i64 D)) (first | (go_keep; done) | (simp (maxDischargeDepth := 9) [*, World.cell?_alloc_some, World.cell?_setCell_far]; done) | (simp (maxDischargeDepth := 9) [go_sem, *]; done)) (first | (go_at_call 40; with_reducible refine (A1.out _).mono ?_; rintro e w' ⟨rfl, rfl⟩) | (go_at_call 40; with_reducible refine (A2.out _).mono ?_; rintro e w' ⟨rfl, rfl⟩))
    all_goals go_wp2_with fail
    go_quiet (fail)
    all_goals go_wp2_with fail
    all_goals exact bodyPost_ret (v := .tuple #[.agg #[.int .i64 0, .int .i64 0], .int .i64 10]) (by first | (simp [results, Tryz.results23, go_sem]; done) | (simp (maxDischargeDepth := 7) [results, Tryz.results23, go_sem, *]; done)) rfl ⟨rfl, (by repeat (first | with_reducible exact Kept.refl _ | with_reducible assumption | with_reducible refine Kept.setCell ?_ (by first | (simp; done) | (simp; omega) | omega) _ | with_reducible refine Kept.alloc ?_ _ | with_reducible refine Kept.drewN ?_ _ | with_reducible refine Kept.drew ?_ | with_reducible refine Kept.trans ?_ (by with_reducible assumption) | with_reducible refine Kept.dr ?_ (by with_reducible assumption)))⟩
  · have qz : x0 = 0 := by rw [← qy]; unfold gx0; rw [if_neg (by omega)]
    clear qy qz qx qx' qI qJ
    go_enter Tryz.func23, Tryz.ntmps23
    go_wp2_with fail
    with_reducible refine (HB _).mono ?_
    rintro e w1 ⟨rfl, hk1⟩
    refine kuse (b := w.heap.size) hk1 (by first | (simp; done) | (simp; omega) | omega) ?_
    intro ha hb
    have hz1_0 : w.heap.size < w1.heap.size := by have := hk1.size; (try simp at this); omega
    have hn1_0 : ¬ w.heap.size = w1.heap.size := by omega
    have hm1_0 : ¬ w1.heap.size = w.heap.size := by omega
    have hf1_0_0 : w1.cell? ⟨w.heap.size, 0, none⟩ = some (.int .i64 tl) := by first | (rw [ha]; with_reducible assumption) | (simp (maxDischargeDepth := 7) [go_sem, ha]; done) | (rw [ha]; assumption) | (simp (maxDischargeDepth := 7) [go_sem, ha, *]; done)
    have hf1_0_1 : w1.cell? ⟨w.heap.size, 1, none⟩ = some (.int .i64 th) := by first | (rw [ha]; with_reducible assumption) | (simp (maxDischargeDepth := 7) [go_sem, ha]; done) | (rw [ha]; assumption) | (simp (maxDischargeDepth := 7) [go_sem, ha, *]; done)
    try have hg1_0 : ∀ o, w1.frozen? ⟨w.heap.size, o, none⟩ = false := by intro o; first | (simp (maxDischargeDepth := 7) [go_sem, hb]; done) | (rw [hb]; simp (maxDischargeDepth := 7) [go_sem, *]; done)
    clear ha hb
    refine kuse (b := w.heap.size + 1) hk1 (by first | (simp; done) | (simp; omega) | omega) ?_
    intro ha hb
    have hz1_1 : w.heap.size + 1 < w1.heap.size := by have := hk1.size; (try simp at this); omega
    have hn1_1 : ¬ w.heap.size + 1 = w1.heap.size := by omega
    have hm1_1 : ¬ w1.heap.size = w.heap.size + 1 := by omega
    have hf1_1_0 : w1.cell? ⟨w.heap.size + 1, 0, none⟩ = some (.int .i64 el) := by first | (rw [ha]; with_reducible assumption) | (simp (maxDischargeDepth := 7) [go_sem, ha]; done) | (rw [ha]; assumption) | (simp (maxDischargeDepth := 7) [go_sem, ha, *]; done)
    have hf1_1_1 : w1.cell? ⟨w.heap.size + 1, 1, none⟩ = some (.int .i64 eh) := by first | (rw [ha]; with_reducible assumption) | (simp (maxDischargeDepth := 7) [go_sem, ha]; done) | (rw [ha]; assumption) | (simp (maxDischargeDepth := 7) [go_sem, ha, *]; done)
    have hf1_1_2 : w1.cell? ⟨w.heap.size + 1, 2, none⟩ = some (.int .i64 nl) := by first | (rw [ha]; with_reducible assumption) | (simp (maxDischargeDepth := 7) [go_sem, ha]; done) | (rw [ha]; assumption) | (simp (maxDischargeDepth := 7) [go_sem, ha, *]; done)
    have hf1_1_3 : w1.cell? ⟨w.heap.size + 1, 3, none⟩ = some (.int .i64 nh) := by first | (rw [ha]; with_reducible assumption) | (simp (maxDischargeDepth := 7) [go_sem, ha]; done) | (rw [ha]; assumption) | (simp (maxDischargeDepth := 7) [go_sem, ha, *]; done)
    try have hg1_1 : ∀ o, w1.frozen? ⟨w.heap.size + 1, o, none⟩ = false := by intro o; first | (simp (maxDischargeDepth := 7) [go_sem, hb]; done) | (rw [hb]; simp (maxDischargeDepth := 7) [go_sem, *]; done)
    clear ha hb
    refine kuse (b := w.heap.size + 2) hk1 (by first | (simp; done) | (simp; omega) | omega) ?_
    intro ha hb
    have hz1_2 : w.heap.size + 2 < w1.heap.size := by have := hk1.size; (try simp at this); omega
    have hn1_2 : ¬ w.heap.size + 2 = w1.heap.size := by omega
    have hm1_2 : ¬ w1.heap.size = w.heap.size + 2 := by omega
    have hf1_2_0 : w1.cell? ⟨w.heap.size + 2, 0, none⟩ = some (.int .i64 0) := by first | (rw [ha]; with_reducible assumption) | (simp (maxDischargeDepth := 7) [go_sem, ha]; done) | (rw [ha]; assumption) | (simp (maxDischargeDepth := 7) [go_sem, ha, *]; done)
    have hf1_2_1 : w1.cell? ⟨w.heap.size + 2, 1, none⟩ = some (.int .i64 0) := by first | (rw [ha]; with_reducible assumption) | (simp (maxDischargeDepth := 7) [go_sem, ha]; done) | (rw [ha]; assumption) | (simp (maxDischargeDepth := 7) [go_sem, ha, *]; done)
    try have hg1_2 : ∀ o, w1.frozen? ⟨w.heap.size + 2, o, none⟩ = false := by intro o; first | (simp (maxDischargeDepth := 7) [go_sem, hb]; done) | (rw [hb]; simp (maxDischargeDepth := 7) [go_sem, *]; done)
    clear ha hb
    go_wp2_with fail
    with_reducible refine (HX.out _).mono ?_
    rintro e w2 ⟨rfl, hk2⟩
    refine kuse (b := w.heap.size) hk2 (by first | (simp; done) | (simp; omega) | omega) ?_
    intro ha hb
    have hz2_0 : w.heap.size < w2.heap.size := by have := hk2.size; (try simp at this); omega
    have hn2_0 : ¬ w.heap.size = w2.heap.size := by omega
    have hm2_0 : ¬ w2.heap.size = w.heap.size := by omega
    have hf2_0_0 : w2.cell? ⟨w.heap.size, 0, none⟩ = some (.int .i64 tl) := by first | (rw [ha]; with_reducible assumption) | (simp (maxDischargeDepth := 7) [go_sem, ha]; done) | (rw [ha]; assumption) | (simp (maxDischargeDepth := 7) [go_sem, ha, *]; done)
    have hf2_0_1 : w2.cell? ⟨w.heap.size, 1, none⟩ = some (.int .i64 th) := by first | (rw [ha]; with_reducible assumption) | (simp (maxDischargeDepth := 7) [go_sem, ha]; done) | (rw [ha]; assumption) | (simp (maxDischargeDepth := 7) [go_sem, ha, *]; done)
    try have hg2_0 : ∀ o, w2.frozen? ⟨w.heap.size, o, none⟩ = false := by intro o; first | (simp (maxDischargeDepth := 7) [go_sem, hb]; done) | (rw [hb]; simp (maxDischargeDepth := 7) [go_sem, *]; done)
    clear ha hb
    refine kuse (b := w.heap.size + 1) hk2 (by first | (simp; done) | (simp; omega) | omega) ?_
    intro ha hb
    have hz2_1 : w.heap.size + 1 < w2.heap.size := by have := hk2.size; (try simp at this); omega
    have hn2_1 : ¬ w.heap.size + 1 = w2.heap.size := by omega
    have hm2_1 : ¬ w2.heap.size = w.heap.size + 1 := by omega
    have hf2_1_0 : w2.cell? ⟨w.heap.size + 1, 0, none⟩ = some (.int .i64 el) := by first | (rw [ha]; with_reducible assumption) | (simp (maxDischargeDepth := 7) [go_sem, ha]; done) | (rw [ha]; assumption) | (simp (maxDischargeDepth := 7) [go_sem, ha, *]; done)
    have hf2_1_1 : w2.cell? ⟨w.heap.size + 1, 1, none⟩ = some (.int .i64 eh) := by first | (rw [ha]; with_reducible assumption) | (simp (maxDischargeDepth := 7) [go_sem, ha]; done) | (rw [ha]; assumption) | (simp (maxDischargeDepth := 7) [go_sem, ha, *]; done)
    have hf2_1_2 : w2.cell? ⟨w.heap.size + 1, 2, none⟩ = some (.int .i64 nl) := by first | (rw [ha]; with_reducible assumption) | (simp (maxDischargeDepth := 7) [go_sem, ha]; done) | (rw [ha]; assumption) | (simp (maxDischargeDepth := 7) [go_sem, ha, *]; done)
    have hf2_1_3 : w2.cell? ⟨w.heap.size + 1, 3, none⟩ = some (.int .i64 nh) := by first | (rw [ha]; with_reducible assumption) | (simp (maxDischargeDepth := 7) [go_sem, ha]; done) | (rw [ha]; assumption) | (simp (maxDischargeDepth := 7) [go_sem, ha, *]; done)
    try have hg2_1 : ∀ o, w2.frozen? ⟨w.heap.size + 1, o, none⟩ = false := by intro o; first | (simp (maxDischargeDepth := 7) [go_sem, hb]; done) | (rw [hb]; simp (maxDischargeDepth := 7) [go_sem, *]; done)
    clear ha hb
    refine kuse (b := w.heap.size + 2) hk2 (by first | (simp; done) | (simp; omega) | omega) ?_
    intro ha hb
    have hz2_2 : w.heap.size + 2 < w2.heap.size := by have := hk2.size; (try simp at this); omega
    have hn2_2 : ¬ w.heap.size + 2 = w2.heap.size := by omega
    have hm2_2 : ¬ w2.heap.size = w.heap.size + 2 := by omega
    have hf2_2_0 : w2.cell? ⟨w.heap.size + 2, 0, none⟩ = some (.int .i64 0) := by first | (rw [ha]; with_reducible assumption) | (simp (maxDischargeDepth := 7) [go_sem, ha]; done) | (rw [ha]; assumption) | (simp (maxDischargeDepth := 7) [go_sem, ha, *]; done)
    have hf2_2_1 : w2.cell? ⟨w.heap.size + 2, 1, none⟩ = some (.int .i64 0) := by first | (rw [ha]; with_reducible assumption) | (simp (maxDischargeDepth := 7) [go_sem, ha]; done) | (rw [ha]; assumption) | (simp (maxDischargeDepth := 7) [go_sem, ha, *]; done)
    try have hg2_2 : ∀ o, w2.frozen? ⟨w.heap.size + 2, o, none⟩ = false := by intro o; first | (simp (maxDischargeDepth := 7) [go_sem, hb]; done) | (rw [hb]; simp (maxDischargeDepth := 7) [go_sem, *]; done)
    clear ha hb
    try clear hf1_0_0
    try clear hf1_0_1
    try clear hf1_1_0
    try clear hf1_1_1
    try clear hf1_1_2
    try clear hf1_1_3
    try clear hf1_2_0
    try clear hf1_2_1
    try clear hg1_0
    try clear hg1_1
    try clear hg1_2
    try clear hz1_1
    try clear hz1_2
    go_wp2_with fail
    go_region_held3 (fun W => W.cell? ⟨w2.heap.size + 1, 0, none⟩ = some (.int .i64 C) ∧ W.cell? ⟨w2.heap.size + 1, 1, none⟩ = some (.int .i64 D)) (first | (go_keep; done) | (simp (maxDischargeDepth := 9) [*, World.cell?_alloc_some, World.cell?_setCell_far]; done) | (simp (maxDischargeDepth := 9) [go_sem, *]; done)) (first | (go_at_call 40; with_reducible refine (A1.out _).mono ?_; rintro e w' ⟨rfl, rfl⟩) | (go_at_call 40; with_reducible refine (A2.out _).mono ?_; rintro e w' ⟨rfl, rfl⟩))
    all_goals go_wp2_with fail
    go_quiet (fail)
    all_goals go_wp2_with fail
    all_goals exact bodyPost_ret (v := .tuple #[.agg #[.int .i64 0, .int .i64 0], .int .i64 10]) (by first | (simp [results, Tryz.results23, go_sem]; done) | (simp (maxDischargeDepth := 7) [results, Tryz.results23, go_sem, *]; done)) rfl ⟨rfl, (by repeat (first | with_reducible exact Kept.refl _ | with_reducible assumption | with_reducible refine Kept.setCell ?_ (by first | (simp; done) | (simp; omega) | omega) _ | with_reducible refine Kept.alloc ?_ _ | with_reducible refine Kept.drewN ?_ _ | with_reducible refine Kept.drew ?_ | with_reducible refine Kept.trans ?_ (by with_reducible assumption) | with_reducible refine Kept.dr ?_ (by with_reducible assumption)))⟩
set_option maxHeartbeats 8000000 in
set_option maxRecDepth 100000 in
theorem gi_g2 (c tl th el eh nl nh : Int) (c_0 : -9223372036854775808 ≤ c) (c_1 : c ≤ 9223372036854775807) (hb : bxB el eh nl nh = true) (t0 : 1 ≤ tl) (t1 : th ≤ 4000) (t2 : tl ≤ th) (k : ¬ tl * 1024 ≤ gx1 (eCl c el eh nl nh) (eCh c el eh nl nh)) (l : eAl c el eh nl nh + rtU tl (gx1 (eCl c el eh nl nh) (eCh c el eh nl nh)) < 1024) (w : World) : Calls Tryz.prog 23 #[.int .i64 c, .agg #[.int .i64 tl, .int .i64 th], .agg #[.int .i64 el, .int .i64 eh, .int .i64 nl, .int .i64 nh]] w fun e w' => e = .returned (.tuple #[.agg #[.int .i64 0, .int .i64 0], .int .i64 10]) ∧ Kept w w' := by
  obtain ⟨⟨e0, e1, e2, e3, e4⟩, n0, n1, n2, n3, n4⟩ := bxB_yes hb
  obtain ⟨⟨a0, a1, a2⟩, d0, d1, d2⟩ := ex_bd c hb
  have HX := Lib.hid (extremes_w c el eh nl nh c_0 c_1 e0 e1 e2 e3 e4 n0 n1 n2 n3 n4)
  have HB := fun W => wbox_w el eh nl nh W
  rw [hb] at HB
  obtain ⟨A, qA⟩ : ∃ A, eAl c el eh nl nh = A := ⟨_, rfl⟩
  obtain ⟨B, qB⟩ : ∃ B, eAh c el eh nl nh = B := ⟨_, rfl⟩
  obtain ⟨C, qC⟩ : ∃ C, eCl c el eh nl nh = C := ⟨_, rfl⟩
  obtain ⟨D, qD⟩ : ∃ D, eCh c el eh nl nh = D := ⟨_, rfl⟩
  rw [qA, qB, qC, qD] at HX
  rw [qC, qD] at k
  rw [qA, qB] at a1
  rw [qA] at a0
  rw [qB] at a2
  rw [qC, qD] at d1
  rw [qC] at d0
  rw [qD] at d2
  have i0 := iabs_lim C (by omega) (by omega)
  have i1 := iabs_lim D (by omega) (by omega)
  have A1 := Lib.hid (abs_w C (by omega) (by omega))
  have A2 := Lib.hid (abs_w D (by omega) (by omega))
  rw [sat_iabs C (by omega) (by omega)] at A1
  rw [sat_iabs D (by omega) (by omega)] at A2
  obtain ⟨x1, qx⟩ : ∃ x, gx1 C D = x := ⟨_, rfl⟩
  obtain ⟨x0, qy⟩ : ∃ x, gx0 C D = x := ⟨_, rfl⟩
  have X0 : 0 ≤ x0 ∧ x0 ≤ x1 := by rw [← qx, ← qy]; unfold gx1 gx0; split <;> omega
  rw [qx] at k
  obtain ⟨I0, qI⟩ : ∃ x, iabs C = x := ⟨_, rfl⟩
  obtain ⟨I1, qJ⟩ : ∃ x, iabs D = x := ⟨_, rfl⟩
  rw [qI] at A1 i0
  rw [qJ] at A2 i1
  have qx' : mxi I0 I1 = x1 := by rw [← qx, ← qI, ← qJ]; rfl
  have b1 : ∀ (ts : Array TypeId) (ty : TypeId) (w : World), (Builtin.max_ ts ty #[.int .i64 I0, .int .i64 I1]).run Tryz.prog w = .ok (.int .i64 x1) w := fun ts ty w => by rw [run_mx2, qx']
  rw [qA, qC, qD, qx] at l
  have wu : IntKind.i64.wrap (tl * 1024) = tl * 1024 := IntWalk.i64_in _ (by omega)
  have wv : IntKind.i64.wrap (th * 1024) = th * 1024 := IntWalk.i64_in _ (by omega)
  obtain ⟨u, qu⟩ : ∃ u, tl * 1024 = u := ⟨_, rfl⟩
  obtain ⟨v, qv⟩ : ∃ v, th * 1024 = v := ⟨_, rfl⟩
  obtain ⟨r0, r1, r2, r3, r4, r5⟩ := rtU_bd tl x1 t0 (by omega) (by omega) (by omega)
  obtain ⟨s0, s1, s2, s3, s4, s5⟩ := rtU_bd th x0 (by omega) t1 (by omega) (by omega)
  rw [qu] at r2 r3 r5
  rw [qv] at s2 s3 s5
  have mono := rtU_mono (t := tl) (u := th) (x := x1) (z := x0) t0 t2 t1 X0.1 X0.2 (by omega)
  have S1 := Lib.hid (sqrt_w (u * u - x1 * x1) (by omega) (by omega))
  have S2 := Lib.hid (sqrt_w (v * v - x0 * x0) (by omega) (by omega))
  rw [show isq (u * u - x1 * x1) = rtU tl x1 by unfold rtU; rw [qu]] at S1
  rw [show isq (v * v - x0 * x0) = rtU th x0 by unfold rtU; rw [qv]] at S2
  have w1 : IntKind.i64.wrap (u * u) = u * u := IntWalk.i64_in _ (by omega)
  have w2 : IntKind.i64.wrap (x1 * x1) = x1 * x1 := IntWalk.i64_in _ (by omega)
  have w3 : IntKind.i64.wrap (u * u - x1 * x1) = u * u - x1 * x1 := IntWalk.i64_in _ (by omega)
  have w4 : IntKind.i64.wrap (v * v) = v * v := IntWalk.i64_in _ (by omega)
  have w5 : IntKind.i64.wrap (x0 * x0) = x0 * x0 := IntWalk.i64_in _ (by omega)
  have w6 : IntKind.i64.wrap (v * v - x0 * x0) = v * v - x0 * x0 := IntWalk.i64_in _ (by omega)
  rw [qu] at wu k
  rw [qv] at wv
  clear qA qB qC qD hb
  have uu : u ≤ v := by omega
  rcases (show 0 < C ∨ (C ≤ 0 ∧ D < 0) ∨ (C ≤ 0 ∧ 0 ≤ D) by omega) with z | ⟨z, z'⟩ | ⟨z, z'⟩
  · have qz : mni I0 I1 = x0 := by rw [← qy]; unfold gx0; rw [if_pos (by omega), qI, qJ]; rfl
    have b2 : ∀ (ts : Array TypeId) (ty : TypeId) (w : World), (Builtin.min_ ts ty #[.int .i64 I0, .int .i64 I1]).run Tryz.prog w = .ok (.int .i64 x0) w := fun ts ty w => by rw [run_mn2, qz]
    obtain ⟨R, qR⟩ : ∃ r, rtU tl x1 = r := ⟨_, rfl⟩
    obtain ⟨S, qS⟩ : ∃ r, rtU th x0 = r := ⟨_, rfl⟩
    rw [qR] at S1 r0 r1 l
    rw [qS] at S2 s0 s1
    rw [qR, qS] at mono
    have w7 : IntKind.i64.wrap (A + R) = A + R := IntWalk.i64_in _ (by omega)
    have w8 : IntKind.i64.wrap (B + S) = B + S := IntWalk.i64_in _ (by omega)
    clear qR qS
    clear qy qz qx qx' qI qJ
    go_enter Tryz.func23, Tryz.ntmps23
    go_wp2_with fail
    with_reducible refine (HB _).mono ?_
    rintro e w1 ⟨rfl, hk1⟩
    refine kuse (b := w.heap.size) hk1 (by first | (simp; done) | (simp; omega) | omega) ?_
    intro ha hb
    have hz1_0 : w.heap.size < w1.heap.size := by have := hk1.size; (try simp at this); omega
    have hn1_0 : ¬ w.heap.size = w1.heap.size := by omega
    have hm1_0 : ¬ w1.heap.size = w.heap.size := by omega
    have hf1_0_0 : w1.cell? ⟨w.heap.size, 0, none⟩ = some (.int .i64 tl) := by first | (rw [ha]; with_reducible assumption) | (simp (maxDischargeDepth := 7) [go_sem, ha]; done) | (rw [ha]; assumption) | (simp (maxDischargeDepth := 7) [go_sem, ha, *]; done)
    have hf1_0_1 : w1.cell? ⟨w.heap.size, 1, none⟩ = some (.int .i64 th) := by first | (rw [ha]; with_reducible assumption) | (simp (maxDischargeDepth := 7) [go_sem, ha]; done) | (rw [ha]; assumption) | (simp (maxDischargeDepth := 7) [go_sem, ha, *]; done)
    try have hg1_0 : ∀ o, w1.frozen? ⟨w.heap.size, o, none⟩ = false := by intro o; first | (simp (maxDischargeDepth := 7) [go_sem, hb]; done) | (rw [hb]; simp (maxDischargeDepth := 7) [go_sem, *]; done)
    clear ha hb
    refine kuse (b := w.heap.size + 1) hk1 (by first | (simp; done) | (simp; omega) | omega) ?_
    intro ha hb
    have hz1_1 : w.heap.size + 1 < w1.heap.size := by have := hk1.size; (try simp at this); omega
    have hn1_1 : ¬ w.heap.size + 1 = w1.heap.size := by omega
    have hm1_1 : ¬ w1.heap.size = w.heap.size + 1 := by omega
    have hf1_1_0 : w1.cell? ⟨w.heap.size + 1, 0, none⟩ = some (.int .i64 el) := by first | (rw [ha]; with_reducible assumption) | (simp (maxDischargeDepth := 7) [go_sem, ha]; done) | (rw [ha]; assumption) | (simp (maxDischargeDepth := 7) [go_sem, ha, *]; done)
    have hf1_1_1 : w1.cell? ⟨w.heap.size + 1, 1, none⟩ = some (.int .i64 eh) := by first | (rw [ha]; with_reducible assumption) | (simp (maxDischargeDepth := 7) [go_sem, ha]; done) | (rw [ha]; assumption) | (simp (maxDischargeDepth := 7) [go_sem, ha, *]; done)
    have hf1_1_2 : w1.cell? ⟨w.heap.size + 1, 2, none⟩ = some (.int .i64 nl) := by first | (rw [ha]; with_reducible assumption) | (simp (maxDischargeDepth := 7) [go_sem, ha]; done) | (rw [ha]; assumption) | (simp (maxDischargeDepth := 7) [go_sem, ha, *]; done)
    have hf1_1_3 : w1.cell? ⟨w.heap.size + 1, 3, none⟩ = some (.int .i64 nh) := by first | (rw [ha]; with_reducible assumption) | (simp (maxDischargeDepth := 7) [go_sem, ha]; done) | (rw [ha]; assumption) | (simp (maxDischargeDepth := 7) [go_sem, ha, *]; done)
    try have hg1_1 : ∀ o, w1.frozen? ⟨w.heap.size + 1, o, none⟩ = false := by intro o; first | (simp (maxDischargeDepth := 7) [go_sem, hb]; done) | (rw [hb]; simp (maxDischargeDepth := 7) [go_sem, *]; done)
    clear ha hb
    refine kuse (b := w.heap.size + 2) hk1 (by first | (simp; done) | (simp; omega) | omega) ?_
    intro ha hb
    have hz1_2 : w.heap.size + 2 < w1.heap.size := by have := hk1.size; (try simp at this); omega
    have hn1_2 : ¬ w.heap.size + 2 = w1.heap.size := by omega
    have hm1_2 : ¬ w1.heap.size = w.heap.size + 2 := by omega
    have hf1_2_0 : w1.cell? ⟨w.heap.size + 2, 0, none⟩ = some (.int .i64 0) := by first | (rw [ha]; with_reducible assumption) | (simp (maxDischargeDepth := 7) [go_sem, ha]; done) | (rw [ha]; assumption) | (simp (maxDischargeDepth := 7) [go_sem, ha, *]; done)
    have hf1_2_1 : w1.cell? ⟨w.heap.size + 2, 1, none⟩ = some (.int .i64 0) := by first | (rw [ha]; with_reducible assumption) | (simp (maxDischargeDepth := 7) [go_sem, ha]; done) | (rw [ha]; assumption) | (simp (maxDischargeDepth := 7) [go_sem, ha, *]; done)
    try have hg1_2 : ∀ o, w1.frozen? ⟨w.heap.size + 2, o, none⟩ = false := by intro o; first | (simp (maxDischargeDepth := 7) [go_sem, hb]; done) | (rw [hb]; simp (maxDischargeDepth := 7) [go_sem, *]; done)
    clear ha hb
    go_wp2_with fail
    with_reducible refine (HX.out _).mono ?_
    rintro e w2 ⟨rfl, hk2⟩
    refine kuse (b := w.heap.size) hk2 (by first | (simp; done) | (simp; omega) | omega) ?_
    intro ha hb
    have hz2_0 : w.heap.size < w2.heap.size := by have := hk2.size; (try simp at this); omega
    have hn2_0 : ¬ w.heap.size = w2.heap.size := by omega
    have hm2_0 : ¬ w2.heap.size = w.heap.size := by omega
    have hf2_0_0 : w2.cell? ⟨w.heap.size, 0, none⟩ = some (.int .i64 tl) := by first | (rw [ha]; with_reducible assumption) | (simp (maxDischargeDepth := 7) [go_sem, ha]; done) | (rw [ha]; assumption) | (simp (maxDischargeDepth := 7) [go_sem, ha, *]; done)
    have hf2_0_1 : w2.cell? ⟨w.heap.size, 1, none⟩ = some (.int .i64 th) := by first | (rw [ha]; with_reducible assumption) | (simp (maxDischargeDepth := 7) [go_sem, ha]; done) | (rw [ha]; assumption) | (simp (maxDischargeDepth := 7) [go_sem, ha, *]; done)
    try have hg2_0 : ∀ o, w2.frozen? ⟨w.heap.size, o, none⟩ = false := by intro o; first | (simp (maxDischargeDepth := 7) [go_sem, hb]; done) | (rw [hb]; simp (maxDischargeDepth := 7) [go_sem, *]; done)
    clear ha hb
    refine kuse (b := w.heap.size + 1) hk2 (by first | (simp; done) | (simp; omega) | omega) ?_
    intro ha hb
    have hz2_1 : w.heap.size + 1 < w2.heap.size := by have := hk2.size; (try simp at this); omega
    have hn2_1 : ¬ w.heap.size + 1 = w2.heap.size := by omega
    have hm2_1 : ¬ w2.heap.size = w.heap.size + 1 := by omega
    have hf2_1_0 : w2.cell? ⟨w.heap.size + 1, 0, none⟩ = some (.int .i64 el) := by first | (rw [ha]; with_reducible assumption) | (simp (maxDischargeDepth := 7) [go_sem, ha]; done) | (rw [ha]; assumption) | (simp (maxDischargeDepth := 7) [go_sem, ha, *]; done)
    have hf2_1_1 : w2.cell? ⟨w.heap.size + 1, 1, none⟩ = some (.int .i64 eh) := by first | (rw [ha]; with_reducible assumption) | (simp (maxDischargeDepth := 7) [go_sem, ha]; done) | (rw [ha]; assumption) | (simp (maxDischargeDepth := 7) [go_sem, ha, *]; done)
    have hf2_1_2 : w2.cell? ⟨w.heap.size + 1, 2, none⟩ = some (.int .i64 nl) := by first | (rw [ha]; with_reducible assumption) | (simp (maxDischargeDepth := 7) [go_sem, ha]; done) | (rw [ha]; assumption) | (simp (maxDischargeDepth := 7) [go_sem, ha, *]; done)
    have hf2_1_3 : w2.cell? ⟨w.heap.size + 1, 3, none⟩ = some (.int .i64 nh) := by first | (rw [ha]; with_reducible assumption) | (simp (maxDischargeDepth := 7) [go_sem, ha]; done) | (rw [ha]; assumption) | (simp (maxDischargeDepth := 7) [go_sem, ha, *]; done)
    try have hg2_1 : ∀ o, w2.frozen? ⟨w.heap.size + 1, o, none⟩ = false := by intro o; first | (simp (maxDischargeDepth := 7) [go_sem, hb]; done) | (rw [hb]; simp (maxDischargeDepth := 7) [go_sem, *]; done)
    clear ha hb
    refine kuse (b := w.heap.size + 2) hk2 (by first | (simp; done) | (simp; omega) | omega) ?_
    intro ha hb
    have hz2_2 : w.heap.size + 2 < w2.heap.size := by have := hk2.size; (try simp at this); omega
    have hn2_2 : ¬ w.heap.size + 2 = w2.heap.size := by omega
    have hm2_2 : ¬ w2.heap.size = w.heap.size + 2 := by omega
    have hf2_2_0 : w2.cell? ⟨w.heap.size + 2, 0, none⟩ = some (.int .i64 0) := by first | (rw [ha]; with_reducible assumption) | (simp (maxDischargeDepth := 7) [go_sem, ha]; done) | (rw [ha]; assumption) | (simp (maxDischargeDepth := 7) [go_sem, ha, *]; done)
    have hf2_2_1 : w2.cell? ⟨w.heap.size + 2, 1, none⟩ = some (.int .i64 0) := by first | (rw [ha]; with_reducible assumption) | (simp (maxDischargeDepth := 7) [go_sem, ha]; done) | (rw [ha]; assumption) | (simp (maxDischargeDepth := 7) [go_sem, ha, *]; done)
    try have hg2_2 : ∀ o, w2.frozen? ⟨w.heap.size + 2, o, none⟩ = false := by intro o; first | (simp (maxDischargeDepth := 7) [go_sem, hb]; done) | (rw [hb]; simp (maxDischargeDepth := 7) [go_sem, *]; done)
    clear ha hb
    try clear hf1_0_0
    try clear hf1_0_1
    try clear hf1_1_0
    try clear hf1_1_1
    try clear hf1_1_2
    try clear hf1_1_3
    try clear hf1_2_0
    try clear hf1_2_1
    try clear hg1_0
    try clear hg1_1
    try clear hg1_2
    try clear hz1_1
    try clear hz1_2
    go_wp2_with fail
    go_region_held3 (fun W => W.cell? ⟨w2.heap.size + 1, 0, none⟩ = some (.int .i64 C) ∧ W.cell? ⟨w2.heap.size + 1, 1, none⟩ = some (.int .i64 D)) (first | (go_keep; done) | (simp (maxDischargeDepth := 9) [*, World.cell?_alloc_some, World.cell?_setCell_far]; done) | (simp (maxDischargeDepth := 9) [go_sem, *]; done)) (first | (go_at_call 40; with_reducible refine (A1.out _).mono ?_; rintro e w' ⟨rfl, rfl⟩) | (go_at_call 40; with_reducible refine (A2.out _).mono ?_; rintro e w' ⟨rfl, rfl⟩))
    all_goals go_wp2_with fail
    go_region_held3 (fun W => W.cell? ⟨w2.heap.size + 1, 0, none⟩ = some (.int .i64 C) ∧ W.cell? ⟨w2.heap.size + 1, 1, none⟩ = some (.int .i64 D)) (first | (go_keep; done) | (simp (maxDischargeDepth := 9) [*, World.cell?_alloc_some, World.cell?_setCell_far]; done) | (simp (maxDischargeDepth := 9) [go_sem, *]; done)) (first | (go_at_call 40; with_reducible refine (A1.out _).mono ?_; rintro e w' ⟨rfl, rfl⟩) | (go_at_call 40; with_reducible refine (A2.out _).mono ?_; rintro e w' ⟨rfl, rfl⟩))
    all_goals go_wp2_with fail
    go_quiet (fail)
    all_goals go_wp2_with fail
    go_region_held3 (fun W => W.cell? ⟨w2.heap.size, 0, none⟩ = some (.int .i64 A) ∧ W.cell? ⟨w2.heap.size, 1, none⟩ = some (.int .i64 B)) (first | (go_keep; done) | (simp (maxDischargeDepth := 9) [*, World.cell?_alloc_some, World.cell?_setCell_far]; done) | (simp (maxDischargeDepth := 9) [go_sem, *]; done)) (first | (go_at_call 41; with_reducible refine (S1.out _).mono ?_; rintro e w' ⟨rfl, rfl⟩))
    all_goals go_wp2_with fail
    go_region_held3 (fun W => W.cell? ⟨w2.heap.size, 0, none⟩ = some (.int .i64 A) ∧ W.cell? ⟨w2.heap.size, 1, none⟩ = some (.int .i64 B)) (first | (go_keep; done) | (simp (maxDischargeDepth := 9) [*, World.cell?_alloc_some, World.cell?_setCell_far]; done) | (simp (maxDischargeDepth := 9) [go_sem, *]; done)) (first | (go_at_call 41; with_reducible refine (S2.out _).mono ?_; rintro e w' ⟨rfl, rfl⟩))
    all_goals go_wp2_with fail
    all_goals exact bodyPost_ret (v := .tuple #[.agg #[.int .i64 0, .int .i64 0], .int .i64 10]) (by first | (simp [results, Tryz.results23, go_sem]; done) | (simp (maxDischargeDepth := 7) [results, Tryz.results23, go_sem, *]; done)) rfl ⟨rfl, (by repeat (first | with_reducible exact Kept.refl _ | with_reducible assumption | with_reducible refine Kept.setCell ?_ (by first | (simp; done) | (simp; omega) | omega) _ | with_reducible refine Kept.alloc ?_ _ | with_reducible refine Kept.drewN ?_ _ | with_reducible refine Kept.drew ?_ | with_reducible refine Kept.trans ?_ (by with_reducible assumption) | with_reducible refine Kept.dr ?_ (by with_reducible assumption)))⟩
  · have qz : mni I0 I1 = x0 := by rw [← qy]; unfold gx0; rw [if_pos (by omega), qI, qJ]; rfl
    have b2 : ∀ (ts : Array TypeId) (ty : TypeId) (w : World), (Builtin.min_ ts ty #[.int .i64 I0, .int .i64 I1]).run Tryz.prog w = .ok (.int .i64 x0) w := fun ts ty w => by rw [run_mn2, qz]
    obtain ⟨R, qR⟩ : ∃ r, rtU tl x1 = r := ⟨_, rfl⟩
    obtain ⟨S, qS⟩ : ∃ r, rtU th x0 = r := ⟨_, rfl⟩
    rw [qR] at S1 r0 r1 l
    rw [qS] at S2 s0 s1
    rw [qR, qS] at mono
    have w7 : IntKind.i64.wrap (A + R) = A + R := IntWalk.i64_in _ (by omega)
    have w8 : IntKind.i64.wrap (B + S) = B + S := IntWalk.i64_in _ (by omega)
    clear qR qS
    clear qy qz qx qx' qI qJ
    go_enter Tryz.func23, Tryz.ntmps23
    go_wp2_with fail
    with_reducible refine (HB _).mono ?_
    rintro e w1 ⟨rfl, hk1⟩
    refine kuse (b := w.heap.size) hk1 (by first | (simp; done) | (simp; omega) | omega) ?_
    intro ha hb
    have hz1_0 : w.heap.size < w1.heap.size := by have := hk1.size; (try simp at this); omega
    have hn1_0 : ¬ w.heap.size = w1.heap.size := by omega
    have hm1_0 : ¬ w1.heap.size = w.heap.size := by omega
    have hf1_0_0 : w1.cell? ⟨w.heap.size, 0, none⟩ = some (.int .i64 tl) := by first | (rw [ha]; with_reducible assumption) | (simp (maxDischargeDepth := 7) [go_sem, ha]; done) | (rw [ha]; assumption) | (simp (maxDischargeDepth := 7) [go_sem, ha, *]; done)
    have hf1_0_1 : w1.cell? ⟨w.heap.size, 1, none⟩ = some (.int .i64 th) := by first | (rw [ha]; with_reducible assumption) | (simp (maxDischargeDepth := 7) [go_sem, ha]; done) | (rw [ha]; assumption) | (simp (maxDischargeDepth := 7) [go_sem, ha, *]; done)
    try have hg1_0 : ∀ o, w1.frozen? ⟨w.heap.size, o, none⟩ = false := by intro o; first | (simp (maxDischargeDepth := 7) [go_sem, hb]; done) | (rw [hb]; simp (maxDischargeDepth := 7) [go_sem, *]; done)
    clear ha hb
    refine kuse (b := w.heap.size + 1) hk1 (by first | (simp; done) | (simp; omega) | omega) ?_
    intro ha hb
    have hz1_1 : w.heap.size + 1 < w1.heap.size := by have := hk1.size; (try simp at this); omega
    have hn1_1 : ¬ w.heap.size + 1 = w1.heap.size := by omega
    have hm1_1 : ¬ w1.heap.size = w.heap.size + 1 := by omega
    have hf1_1_0 : w1.cell? ⟨w.heap.size + 1, 0, none⟩ = some (.int .i64 el) := by first | (rw [ha]; with_reducible assumption) | (simp (maxDischargeDepth := 7) [go_sem, ha]; done) | (rw [ha]; assumption) | (simp (maxDischargeDepth := 7) [go_sem, ha, *]; done)
    have hf1_1_1 : w1.cell? ⟨w.heap.size + 1, 1, none⟩ = some (.int .i64 eh) := by first | (rw [ha]; with_reducible assumption) | (simp (maxDischargeDepth := 7) [go_sem, ha]; done) | (rw [ha]; assumption) | (simp (maxDischargeDepth := 7) [go_sem, ha, *]; done)
    have hf1_1_2 : w1.cell? ⟨w.heap.size + 1, 2, none⟩ = some (.int .i64 nl) := by first | (rw [ha]; with_reducible assumption) | (simp (maxDischargeDepth := 7) [go_sem, ha]; done) | (rw [ha]; assumption) | (simp (maxDischargeDepth := 7) [go_sem, ha, *]; done)
    have hf1_1_3 : w1.cell? ⟨w.heap.size + 1, 3, none⟩ = some (.int .i64 nh) := by first | (rw [ha]; with_reducible assumption) | (simp (maxDischargeDepth := 7) [go_sem, ha]; done) | (rw [ha]; assumption) | (simp (maxDischargeDepth := 7) [go_sem, ha, *]; done)
    try have hg1_1 : ∀ o, w1.frozen? ⟨w.heap.size + 1, o, none⟩ = false := by intro o; first | (simp (maxDischargeDepth := 7) [go_sem, hb]; done) | (rw [hb]; simp (maxDischargeDepth := 7) [go_sem, *]; done)
    clear ha hb
    refine kuse (b := w.heap.size + 2) hk1 (by first | (simp; done) | (simp; omega) | omega) ?_
    intro ha hb
    have hz1_2 : w.heap.size + 2 < w1.heap.size := by have := hk1.size; (try simp at this); omega
    have hn1_2 : ¬ w.heap.size + 2 = w1.heap.size := by omega
    have hm1_2 : ¬ w1.heap.size = w.heap.size + 2 := by omega
    have hf1_2_0 : w1.cell? ⟨w.heap.size + 2, 0, none⟩ = some (.int .i64 0) := by first | (rw [ha]; with_reducible assumption) | (simp (maxDischargeDepth := 7) [go_sem, ha]; done) | (rw [ha]; assumption) | (simp (maxDischargeDepth := 7) [go_sem, ha, *]; done)
    have hf1_2_1 : w1.cell? ⟨w.heap.size + 2, 1, none⟩ = some (.int .i64 0) := by first | (rw [ha]; with_reducible assumption) | (simp (maxDischargeDepth := 7) [go_sem, ha]; done) | (rw [ha]; assumption) | (simp (maxDischargeDepth := 7) [go_sem, ha, *]; done)
    try have hg1_2 : ∀ o, w1.frozen? ⟨w.heap.size + 2, o, none⟩ = false := by intro o; first | (simp (maxDischargeDepth := 7) [go_sem, hb]; done) | (rw [hb]; simp (maxDischargeDepth := 7) [go_sem, *]; done)
    clear ha hb
    go_wp2_with fail
    with_reducible refine (HX.out _).mono ?_
    rintro e w2 ⟨rfl, hk2⟩
    refine kuse (b := w.heap.size) hk2 (by first | (simp; done) | (simp; omega) | omega) ?_
    intro ha hb
    have hz2_0 : w.heap.size < w2.heap.size := by have := hk2.size; (try simp at this); omega
    have hn2_0 : ¬ w.heap.size = w2.heap.size := by omega
    have hm2_0 : ¬ w2.heap.size = w.heap.size := by omega
    have hf2_0_0 : w2.cell? ⟨w.heap.size, 0, none⟩ = some (.int .i64 tl) := by first | (rw [ha]; with_reducible assumption) | (simp (maxDischargeDepth := 7) [go_sem, ha]; done) | (rw [ha]; assumption) | (simp (maxDischargeDepth := 7) [go_sem, ha, *]; done)
    have hf2_0_1 : w2.cell? ⟨w.heap.size, 1, none⟩ = some (.int .i64 th) := by first | (rw [ha]; with_reducible assumption) | (simp (maxDischargeDepth := 7) [go_sem, ha]; done) | (rw [ha]; assumption) | (simp (maxDischargeDepth := 7) [go_sem, ha, *]; done)
    try have hg2_0 : ∀ o, w2.frozen? ⟨w.heap.size, o, none⟩ = false := by intro o; first | (simp (maxDischargeDepth := 7) [go_sem, hb]; done) | (rw [hb]; simp (maxDischargeDepth := 7) [go_sem, *]; done)
    clear ha hb
    refine kuse (b := w.heap.size + 1) hk2 (by first | (simp; done) | (simp; omega) | omega) ?_
    intro ha hb
    have hz2_1 : w.heap.size + 1 < w2.heap.size := by have := hk2.size; (try simp at this); omega
    have hn2_1 : ¬ w.heap.size + 1 = w2.heap.size := by omega
    have hm2_1 : ¬ w2.heap.size = w.heap.size + 1 := by omega
    have hf2_1_0 : w2.cell? ⟨w.heap.size + 1, 0, none⟩ = some (.int .i64 el) := by first | (rw [ha]; with_reducible assumption) | (simp (maxDischargeDepth := 7) [go_sem, ha]; done) | (rw [ha]; assumption) | (simp (maxDischargeDepth := 7) [go_sem, ha, *]; done)
    have hf2_1_1 : w2.cell? ⟨w.heap.size + 1, 1, none⟩ = some (.int .i64 eh) := by first | (rw [ha]; with_reducible assumption) | (simp (maxDischargeDepth := 7) [go_sem, ha]; done) | (rw [ha]; assumption) | (simp (maxDischargeDepth := 7) [go_sem, ha, *]; done)
    have hf2_1_2 : w2.cell? ⟨w.heap.size + 1, 2, none⟩ = some (.int .i64 nl) := by first | (rw [ha]; with_reducible assumption) | (simp (maxDischargeDepth := 7) [go_sem, ha]; done) | (rw [ha]; assumption) | (simp (maxDischargeDepth := 7) [go_sem, ha, *]; done)
    have hf2_1_3 : w2.cell? ⟨w.heap.size + 1, 3, none⟩ = some (.int .i64 nh) := by first | (rw [ha]; with_reducible assumption) | (simp (maxDischargeDepth := 7) [go_sem, ha]; done) | (rw [ha]; assumption) | (simp (maxDischargeDepth := 7) [go_sem, ha, *]; done)
    try have hg2_1 : ∀ o, w2.frozen? ⟨w.heap.size + 1, o, none⟩ = false := by intro o; first | (simp (maxDischargeDepth := 7) [go_sem, hb]; done) | (rw [hb]; simp (maxDischargeDepth := 7) [go_sem, *]; done)
    clear ha hb
    refine kuse (b := w.heap.size + 2) hk2 (by first | (simp; done) | (simp; omega) | omega) ?_
    intro ha hb
    have hz2_2 : w.heap.size + 2 < w2.heap.size := by have := hk2.size; (try simp at this); omega
    have hn2_2 : ¬ w.heap.size + 2 = w2.heap.size := by omega
    have hm2_2 : ¬ w2.heap.size = w.heap.size + 2 := by omega
    have hf2_2_0 : w2.cell? ⟨w.heap.size + 2, 0, none⟩ = some (.int .i64 0) := by first | (rw [ha]; with_reducible assumption) | (simp (maxDischargeDepth := 7) [go_sem, ha]; done) | (rw [ha]; assumption) | (simp (maxDischargeDepth := 7) [go_sem, ha, *]; done)
    have hf2_2_1 : w2.cell? ⟨w.heap.size + 2, 1, none⟩ = some (.int .i64 0) := by first | (rw [ha]; with_reducible assumption) | (simp (maxDischargeDepth := 7) [go_sem, ha]; done) | (rw [ha]; assumption) | (simp (maxDischargeDepth := 7) [go_sem, ha, *]; done)
    try have hg2_2 : ∀ o, w2.frozen? ⟨w.heap.size + 2, o, none⟩ = false := by intro o; first | (simp (maxDischargeDepth := 7) [go_sem, hb]; done) | (rw [hb]; simp (maxDischargeDepth := 7) [go_sem, *]; done)
    clear ha hb
    try clear hf1_0_0
    try clear hf1_0_1
    try clear hf1_1_0
    try clear hf1_1_1
    try clear hf1_1_2
    try clear hf1_1_3
    try clear hf1_2_0
    try clear hf1_2_1
    try clear hg1_0
    try clear hg1_1
    try clear hg1_2
    try clear hz1_1
    try clear hz1_2
    go_wp2_with fail
    go_region_held3 (fun W => W.cell? ⟨w2.heap.size + 1, 0, none⟩ = some (.int .i64 C) ∧ W.cell? ⟨w2.heap.size + 1, 1, none⟩ = some (.int .i64 D)) (first | (go_keep; done) | (simp (maxDischargeDepth := 9) [*, World.cell?_alloc_some, World.cell?_setCell_far]; done) | (simp (maxDischargeDepth := 9) [go_sem, *]; done)) (first | (go_at_call 40; with_reducible refine (A1.out _).mono ?_; rintro e w' ⟨rfl, rfl⟩) | (go_at_call 40; with_reducible refine (A2.out _).mono ?_; rintro e w' ⟨rfl, rfl⟩))
    all_goals go_wp2_with fail
    go_region_held3 (fun W => W.cell? ⟨w2.heap.size + 1, 0, none⟩ = some (.int .i64 C) ∧ W.cell? ⟨w2.heap.size + 1, 1, none⟩ = some (.int .i64 D)) (first | (go_keep; done) | (simp (maxDischargeDepth := 9) [*, World.cell?_alloc_some, World.cell?_setCell_far]; done) | (simp (maxDischargeDepth := 9) [go_sem, *]; done)) (first | (go_at_call 40; with_reducible refine (A1.out _).mono ?_; rintro e w' ⟨rfl, rfl⟩) | (go_at_call 40; with_reducible refine (A2.out _).mono ?_; rintro e w' ⟨rfl, rfl⟩))
    all_goals go_wp2_with fail
    go_quiet (fail)
    all_goals go_wp2_with fail
    go_region_held3 (fun W => W.cell? ⟨w2.heap.size, 0, none⟩ = some (.int .i64 A) ∧ W.cell? ⟨w2.heap.size, 1, none⟩ = some (.int .i64 B)) (first | (go_keep; done) | (simp (maxDischargeDepth := 9) [*, World.cell?_alloc_some, World.cell?_setCell_far]; done) | (simp (maxDischargeDepth := 9) [go_sem, *]; done)) (first | (go_at_call 41; with_reducible refine (S1.out _).mono ?_; rintro e w' ⟨rfl, rfl⟩))
    all_goals go_wp2_with fail
    go_region_held3 (fun W => W.cell? ⟨w2.heap.size, 0, none⟩ = some (.int .i64 A) ∧ W.cell? ⟨w2.heap.size, 1, none⟩ = some (.int .i64 B)) (first | (go_keep; done) | (simp (maxDischargeDepth := 9) [*, World.cell?_alloc_some, World.cell?_setCell_far]; done) | (simp (maxDischargeDepth := 9) [go_sem, *]; done)) (first | (go_at_call 41; with_reducible refine (S2.out _).mono ?_; rintro e w' ⟨rfl, rfl⟩))
    all_goals go_wp2_with fail
    all_goals exact bodyPost_ret (v := .tuple #[.agg #[.int .i64 0, .int .i64 0], .int .i64 10]) (by first | (simp [results, Tryz.results23, go_sem]; done) | (simp (maxDischargeDepth := 7) [results, Tryz.results23, go_sem, *]; done)) rfl ⟨rfl, (by repeat (first | with_reducible exact Kept.refl _ | with_reducible assumption | with_reducible refine Kept.setCell ?_ (by first | (simp; done) | (simp; omega) | omega) _ | with_reducible refine Kept.alloc ?_ _ | with_reducible refine Kept.drewN ?_ _ | with_reducible refine Kept.drew ?_ | with_reducible refine Kept.trans ?_ (by with_reducible assumption) | with_reducible refine Kept.dr ?_ (by with_reducible assumption)))⟩
  · have qz : x0 = 0 := by rw [← qy]; unfold gx0; rw [if_neg (by omega)]
    obtain ⟨R, qR⟩ : ∃ r, rtU tl x1 = r := ⟨_, rfl⟩
    obtain ⟨S, qS⟩ : ∃ r, rtU th x0 = r := ⟨_, rfl⟩
    rw [qR] at S1 r0 r1 l
    rw [qS] at S2 s0 s1
    rw [qR, qS] at mono
    have w7 : IntKind.i64.wrap (A + R) = A + R := IntWalk.i64_in _ (by omega)
    have w8 : IntKind.i64.wrap (B + S) = B + S := IntWalk.i64_in _ (by omega)
    clear qR qS
    rw [qz, show v * v - 0 * 0 = v * v by omega] at S2
    have wz0 : IntKind.i64.wrap 0 = 0 := by decide
    have wz1 : IntKind.i64.wrap (v * v - 0) = v * v := by rw [show v * v - 0 = v * v by omega]; exact w4
    clear qy qz qx qx' qI qJ
    go_enter Tryz.func23, Tryz.ntmps23
    go_wp2_with fail
    with_reducible refine (HB _).mono ?_
    rintro e w1 ⟨rfl, hk1⟩
    refine kuse (b := w.heap.size) hk1 (by first | (simp; done) | (simp; omega) | omega) ?_
    intro ha hb
    have hz1_0 : w.heap.size < w1.heap.size := by have := hk1.size; (try simp at this); omega
    have hn1_0 : ¬ w.heap.size = w1.heap.size := by omega
    have hm1_0 : ¬ w1.heap.size = w.heap.size := by omega
    have hf1_0_0 : w1.cell? ⟨w.heap.size, 0, none⟩ = some (.int .i64 tl) := by first | (rw [ha]; with_reducible assumption) | (simp (maxDischargeDepth := 7) [go_sem, ha]; done) | (rw [ha]; assumption) | (simp (maxDischargeDepth := 7) [go_sem, ha, *]; done)
    have hf1_0_1 : w1.cell? ⟨w.heap.size, 1, none⟩ = some (.int .i64 th) := by first | (rw [ha]; with_reducible assumption) | (simp (maxDischargeDepth := 7) [go_sem, ha]; done) | (rw [ha]; assumption) | (simp (maxDischargeDepth := 7) [go_sem, ha, *]; done)
    try have hg1_0 : ∀ o, w1.frozen? ⟨w.heap.size, o, none⟩ = false := by intro o; first | (simp (maxDischargeDepth := 7) [go_sem, hb]; done) | (rw [hb]; simp (maxDischargeDepth := 7) [go_sem, *]; done)
    clear ha hb
    refine kuse (b := w.heap.size + 1) hk1 (by first | (simp; done) | (simp; omega) | omega) ?_
    intro ha hb
    have hz1_1 : w.heap.size + 1 < w1.heap.size := by have := hk1.size; (try simp at this); omega
    have hn1_1 : ¬ w.heap.size + 1 = w1.heap.size := by omega
    have hm1_1 : ¬ w1.heap.size = w.heap.size + 1 := by omega
    have hf1_1_0 : w1.cell? ⟨w.heap.size + 1, 0, none⟩ = some (.int .i64 el) := by first | (rw [ha]; with_reducible assumption) | (simp (maxDischargeDepth := 7) [go_sem, ha]; done) | (rw [ha]; assumption) | (simp (maxDischargeDepth := 7) [go_sem, ha, *]; done)
    have hf1_1_1 : w1.cell? ⟨w.heap.size + 1, 1, none⟩ = some (.int .i64 eh) := by first | (rw [ha]; with_reducible assumption) | (simp (maxDischargeDepth := 7) [go_sem, ha]; done) | (rw [ha]; assumption) | (simp (maxDischargeDepth := 7) [go_sem, ha, *]; done)
    have hf1_1_2 : w1.cell? ⟨w.heap.size + 1, 2, none⟩ = some (.int .i64 nl) := by first | (rw [ha]; with_reducible assumption) | (simp (maxDischargeDepth := 7) [go_sem, ha]; done) | (rw [ha]; assumption) | (simp (maxDischargeDepth := 7) [go_sem, ha, *]; done)
    have hf1_1_3 : w1.cell? ⟨w.heap.size + 1, 3, none⟩ = some (.int .i64 nh) := by first | (rw [ha]; with_reducible assumption) | (simp (maxDischargeDepth := 7) [go_sem, ha]; done) | (rw [ha]; assumption) | (simp (maxDischargeDepth := 7) [go_sem, ha, *]; done)
    try have hg1_1 : ∀ o, w1.frozen? ⟨w.heap.size + 1, o, none⟩ = false := by intro o; first | (simp (maxDischargeDepth := 7) [go_sem, hb]; done) | (rw [hb]; simp (maxDischargeDepth := 7) [go_sem, *]; done)
    clear ha hb
    refine kuse (b := w.heap.size + 2) hk1 (by first | (simp; done) | (simp; omega) | omega) ?_
    intro ha hb
    have hz1_2 : w.heap.size + 2 < w1.heap.size := by have := hk1.size; (try simp at this); omega
    have hn1_2 : ¬ w.heap.size + 2 = w1.heap.size := by omega
    have hm1_2 : ¬ w1.heap.size = w.heap.size + 2 := by omega
    have hf1_2_0 : w1.cell? ⟨w.heap.size + 2, 0, none⟩ = some (.int .i64 0) := by first | (rw [ha]; with_reducible assumption) | (simp (maxDischargeDepth := 7) [go_sem, ha]; done) | (rw [ha]; assumption) | (simp (maxDischargeDepth := 7) [go_sem, ha, *]; done)
    have hf1_2_1 : w1.cell? ⟨w.heap.size + 2, 1, none⟩ = some (.int .i64 0) := by first | (rw [ha]; with_reducible assumption) | (simp (maxDischargeDepth := 7) [go_sem, ha]; done) | (rw [ha]; assumption) | (simp (maxDischargeDepth := 7) [go_sem, ha, *]; done)
    try have hg1_2 : ∀ o, w1.frozen? ⟨w.heap.size + 2, o, none⟩ = false := by intro o; first | (simp (maxDischargeDepth := 7) [go_sem, hb]; done) | (rw [hb]; simp (maxDischargeDepth := 7) [go_sem, *]; done)
    clear ha hb
    go_wp2_with fail
    with_reducible refine (HX.out _).mono ?_
    rintro e w2 ⟨rfl, hk2⟩
    refine kuse (b := w.heap.size) hk2 (by first | (simp; done) | (simp; omega) | omega) ?_
    intro ha hb
    have hz2_0 : w.heap.size < w2.heap.size := by have := hk2.size; (try simp at this); omega
    have hn2_0 : ¬ w.heap.size = w2.heap.size := by omega
    have hm2_0 : ¬ w2.heap.size = w.heap.size := by omega
    have hf2_0_0 : w2.cell? ⟨w.heap.size, 0, none⟩ = some (.int .i64 tl) := by first | (rw [ha]; with_reducible assumption) | (simp (maxDischargeDepth := 7) [go_sem, ha]; done) | (rw [ha]; assumption) | (simp (maxDischargeDepth := 7) [go_sem, ha, *]; done)
    have hf2_0_1 : w2.cell? ⟨w.heap.size, 1, none⟩ = some (.int .i64 th) := by first | (rw [ha]; with_reducible assumption) | (simp (maxDischargeDepth := 7) [go_sem, ha]; done) | (rw [ha]; assumption) | (simp (maxDischargeDepth := 7) [go_sem, ha, *]; done)
    try have hg2_0 : ∀ o, w2.frozen? ⟨w.heap.size, o, none⟩ = false := by intro o; first | (simp (maxDischargeDepth := 7) [go_sem, hb]; done) | (rw [hb]; simp (maxDischargeDepth := 7) [go_sem, *]; done)
    clear ha hb
    refine kuse (b := w.heap.size + 1) hk2 (by first | (simp; done) | (simp; omega) | omega) ?_
    intro ha hb
    have hz2_1 : w.heap.size + 1 < w2.heap.size := by have := hk2.size; (try simp at this); omega
    have hn2_1 : ¬ w.heap.size + 1 = w2.heap.size := by omega
    have hm2_1 : ¬ w2.heap.size = w.heap.size + 1 := by omega
    have hf2_1_0 : w2.cell? ⟨w.heap.size + 1, 0, none⟩ = some (.int .i64 el) := by first | (rw [ha]; with_reducible assumption) | (simp (maxDischargeDepth := 7) [go_sem, ha]; done) | (rw [ha]; assumption) | (simp (maxDischargeDepth := 7) [go_sem, ha, *]; done)
    have hf2_1_1 : w2.cell? ⟨w.heap.size + 1, 1, none⟩ = some (.int .i64 eh) := by first | (rw [ha]; with_reducible assumption) | (simp (maxDischargeDepth := 7) [go_sem, ha]; done) | (rw [ha]; assumption) | (simp (maxDischargeDepth := 7) [go_sem, ha, *]; done)
    have hf2_1_2 : w2.cell? ⟨w.heap.size + 1, 2, none⟩ = some (.int .i64 nl) := by first | (rw [ha]; with_reducible assumption) | (simp (maxDischargeDepth := 7) [go_sem, ha]; done) | (rw [ha]; assumption) | (simp (maxDischargeDepth := 7) [go_sem, ha, *]; done)
    have hf2_1_3 : w2.cell? ⟨w.heap.size + 1, 3, none⟩ = some (.int .i64 nh) := by first | (rw [ha]; with_reducible assumption) | (simp (maxDischargeDepth := 7) [go_sem, ha]; done) | (rw [ha]; assumption) | (simp (maxDischargeDepth := 7) [go_sem, ha, *]; done)
    try have hg2_1 : ∀ o, w2.frozen? ⟨w.heap.size + 1, o, none⟩ = false := by intro o; first | (simp (maxDischargeDepth := 7) [go_sem, hb]; done) | (rw [hb]; simp (maxDischargeDepth := 7) [go_sem, *]; done)
    clear ha hb
    refine kuse (b := w.heap.size + 2) hk2 (by first | (simp; done) | (simp; omega) | omega) ?_
    intro ha hb
    have hz2_2 : w.heap.size + 2 < w2.heap.size := by have := hk2.size; (try simp at this); omega
    have hn2_2 : ¬ w.heap.size + 2 = w2.heap.size := by omega
    have hm2_2 : ¬ w2.heap.size = w.heap.size + 2 := by omega
    have hf2_2_0 : w2.cell? ⟨w.heap.size + 2, 0, none⟩ = some (.int .i64 0) := by first | (rw [ha]; with_reducible assumption) | (simp (maxDischargeDepth := 7) [go_sem, ha]; done) | (rw [ha]; assumption) | (simp (maxDischargeDepth := 7) [go_sem, ha, *]; done)
    have hf2_2_1 : w2.cell? ⟨w.heap.size + 2, 1, none⟩ = some (.int .i64 0) := by first | (rw [ha]; with_reducible assumption) | (simp (maxDischargeDepth := 7) [go_sem, ha]; done) | (rw [ha]; assumption) | (simp (maxDischargeDepth := 7) [go_sem, ha, *]; done)
    try have hg2_2 : ∀ o, w2.frozen? ⟨w.heap.size + 2, o, none⟩ = false := by intro o; first | (simp (maxDischargeDepth := 7) [go_sem, hb]; done) | (rw [hb]; simp (maxDischargeDepth := 7) [go_sem, *]; done)
    clear ha hb
    try clear hf1_0_0
    try clear hf1_0_1
    try clear hf1_1_0
    try clear hf1_1_1
    try clear hf1_1_2
    try clear hf1_1_3
    try clear hf1_2_0
    try clear hf1_2_1
    try clear hg1_0
    try clear hg1_1
    try clear hg1_2
    try clear hz1_1
    try clear hz1_2
    go_wp2_with fail
    go_region_held3 (fun W => W.cell? ⟨w2.heap.size + 1, 0, none⟩ = some (.int .i64 C) ∧ W.cell? ⟨w2.heap.size + 1, 1, none⟩ = some (.int .i64 D)) (first | (go_keep; done) | (simp (maxDischargeDepth := 9) [*, World.cell?_alloc_some, World.cell?_setCell_far]; done) | (simp (maxDischargeDepth := 9) [go_sem, *]; done)) (first | (go_at_call 40; with_reducible refine (A1.out _).mono ?_; rintro e w' ⟨rfl, rfl⟩) | (go_at_call 40; with_reducible refine (A2.out _).mono ?_; rintro e w' ⟨rfl, rfl⟩))
    all_goals go_wp2_with fail
    go_quiet (fail)
    all_goals go_wp2_with fail
    go_region_held3 (fun W => W.cell? ⟨w2.heap.size, 0, none⟩ = some (.int .i64 A) ∧ W.cell? ⟨w2.heap.size, 1, none⟩ = some (.int .i64 B)) (first | (go_keep; done) | (simp (maxDischargeDepth := 9) [*, World.cell?_alloc_some, World.cell?_setCell_far]; done) | (simp (maxDischargeDepth := 9) [go_sem, *]; done)) (first | (go_at_call 41; with_reducible refine (S1.out _).mono ?_; rintro e w' ⟨rfl, rfl⟩))
    all_goals go_wp2_with fail
    go_region_held3 (fun W => W.cell? ⟨w2.heap.size, 0, none⟩ = some (.int .i64 A) ∧ W.cell? ⟨w2.heap.size, 1, none⟩ = some (.int .i64 B)) (first | (go_keep; done) | (simp (maxDischargeDepth := 9) [*, World.cell?_alloc_some, World.cell?_setCell_far]; done) | (simp (maxDischargeDepth := 9) [go_sem, *]; done)) (first | (go_at_call 41; with_reducible refine (S2.out _).mono ?_; rintro e w' ⟨rfl, rfl⟩))
    all_goals go_wp2_with fail
    all_goals exact bodyPost_ret (v := .tuple #[.agg #[.int .i64 0, .int .i64 0], .int .i64 10]) (by first | (simp [results, Tryz.results23, go_sem]; done) | (simp (maxDischargeDepth := 7) [results, Tryz.results23, go_sem, *]; done)) rfl ⟨rfl, (by repeat (first | with_reducible exact Kept.refl _ | with_reducible assumption | with_reducible refine Kept.setCell ?_ (by first | (simp; done) | (simp; omega) | omega) _ | with_reducible refine Kept.alloc ?_ _ | with_reducible refine Kept.drewN ?_ _ | with_reducible refine Kept.drew ?_ | with_reducible refine Kept.trans ?_ (by with_reducible assumption) | with_reducible refine Kept.dr ?_ (by with_reducible assumption)))⟩
set_option maxHeartbeats 8000000 in
set_option maxRecDepth 100000 in
theorem gi_yes (c tl th el eh nl nh : Int) (c_0 : -9223372036854775808 ≤ c) (c_1 : c ≤ 9223372036854775807) (hb : bxB el eh nl nh = true) (t0 : 1 ≤ tl) (t1 : th ≤ 4000) (t2 : tl ≤ th) (k : ¬ tl * 1024 ≤ gx1 (eCl c el eh nl nh) (eCh c el eh nl nh)) (l : ¬ eAl c el eh nl nh + rtU tl (gx1 (eCl c el eh nl nh) (eCh c el eh nl nh)) < 1024) (w : World) : Calls Tryz.prog 23 #[.int .i64 c, .agg #[.int .i64 tl, .int .i64 th], .agg #[.int .i64 el, .int .i64 eh, .int .i64 nl, .int .i64 nh]] w fun e w' => e = .returned (.tuple #[.agg #[.int .i64 ((eAl c el eh nl nh + rtU tl (gx1 (eCl c el eh nl nh) (eCh c el eh nl nh))) / 1024), .int .i64 ((eAh c el eh nl nh + rtU th (gx0 (eCl c el eh nl nh) (eCh c el eh nl nh)) + 1023) / 1024)], .int .i64 0]) ∧ Kept w w' := by
  obtain ⟨⟨e0, e1, e2, e3, e4⟩, n0, n1, n2, n3, n4⟩ := bxB_yes hb
  obtain ⟨⟨a0, a1, a2⟩, d0, d1, d2⟩ := ex_bd c hb
  have HX := Lib.hid (extremes_w c el eh nl nh c_0 c_1 e0 e1 e2 e3 e4 n0 n1 n2 n3 n4)
  have HB := fun W => wbox_w el eh nl nh W
  rw [hb] at HB
  obtain ⟨A, qA⟩ : ∃ A, eAl c el eh nl nh = A := ⟨_, rfl⟩
  obtain ⟨B, qB⟩ : ∃ B, eAh c el eh nl nh = B := ⟨_, rfl⟩
  obtain ⟨C, qC⟩ : ∃ C, eCl c el eh nl nh = C := ⟨_, rfl⟩
  obtain ⟨D, qD⟩ : ∃ D, eCh c el eh nl nh = D := ⟨_, rfl⟩
  rw [qA, qB, qC, qD] at HX
  rw [qC, qD] at k
  rw [qA, qB] at a1
  rw [qA] at a0
  rw [qB] at a2
  rw [qC, qD] at d1
  rw [qC] at d0
  rw [qD] at d2
  have i0 := iabs_lim C (by omega) (by omega)
  have i1 := iabs_lim D (by omega) (by omega)
  have A1 := Lib.hid (abs_w C (by omega) (by omega))
  have A2 := Lib.hid (abs_w D (by omega) (by omega))
  rw [sat_iabs C (by omega) (by omega)] at A1
  rw [sat_iabs D (by omega) (by omega)] at A2
  obtain ⟨x1, qx⟩ : ∃ x, gx1 C D = x := ⟨_, rfl⟩
  obtain ⟨x0, qy⟩ : ∃ x, gx0 C D = x := ⟨_, rfl⟩
  have X0 : 0 ≤ x0 ∧ x0 ≤ x1 := by rw [← qx, ← qy]; unfold gx1 gx0; split <;> omega
  rw [qx] at k
  obtain ⟨I0, qI⟩ : ∃ x, iabs C = x := ⟨_, rfl⟩
  obtain ⟨I1, qJ⟩ : ∃ x, iabs D = x := ⟨_, rfl⟩
  rw [qI] at A1 i0
  rw [qJ] at A2 i1
  have qx' : mxi I0 I1 = x1 := by rw [← qx, ← qI, ← qJ]; rfl
  have b1 : ∀ (ts : Array TypeId) (ty : TypeId) (w : World), (Builtin.max_ ts ty #[.int .i64 I0, .int .i64 I1]).run Tryz.prog w = .ok (.int .i64 x1) w := fun ts ty w => by rw [run_mx2, qx']
  rw [qA, qC, qD, qx] at l
  rw [qA, qB, qC, qD]
  have wu : IntKind.i64.wrap (tl * 1024) = tl * 1024 := IntWalk.i64_in _ (by omega)
  have wv : IntKind.i64.wrap (th * 1024) = th * 1024 := IntWalk.i64_in _ (by omega)
  obtain ⟨u, qu⟩ : ∃ u, tl * 1024 = u := ⟨_, rfl⟩
  obtain ⟨v, qv⟩ : ∃ v, th * 1024 = v := ⟨_, rfl⟩
  obtain ⟨r0, r1, r2, r3, r4, r5⟩ := rtU_bd tl x1 t0 (by omega) (by omega) (by omega)
  obtain ⟨s0, s1, s2, s3, s4, s5⟩ := rtU_bd th x0 (by omega) t1 (by omega) (by omega)
  rw [qu] at r2 r3 r5
  rw [qv] at s2 s3 s5
  have mono := rtU_mono (t := tl) (u := th) (x := x1) (z := x0) t0 t2 t1 X0.1 X0.2 (by omega)
  have S1 := Lib.hid (sqrt_w (u * u - x1 * x1) (by omega) (by omega))
  have S2 := Lib.hid (sqrt_w (v * v - x0 * x0) (by omega) (by omega))
  rw [show isq (u * u - x1 * x1) = rtU tl x1 by unfold rtU; rw [qu]] at S1
  rw [show isq (v * v - x0 * x0) = rtU th x0 by unfold rtU; rw [qv]] at S2
  have w1 : IntKind.i64.wrap (u * u) = u * u := IntWalk.i64_in _ (by omega)
  have w2 : IntKind.i64.wrap (x1 * x1) = x1 * x1 := IntWalk.i64_in _ (by omega)
  have w3 : IntKind.i64.wrap (u * u - x1 * x1) = u * u - x1 * x1 := IntWalk.i64_in _ (by omega)
  have w4 : IntKind.i64.wrap (v * v) = v * v := IntWalk.i64_in _ (by omega)
  have w5 : IntKind.i64.wrap (x0 * x0) = x0 * x0 := IntWalk.i64_in _ (by omega)
  have w6 : IntKind.i64.wrap (v * v - x0 * x0) = v * v - x0 * x0 := IntWalk.i64_in _ (by omega)
  rw [qu] at wu k
  rw [qv] at wv
  clear qA qB qC qD hb
  have uu : u ≤ v := by omega
  rcases (show 0 < C ∨ (C ≤ 0 ∧ D < 0) ∨ (C ≤ 0 ∧ 0 ≤ D) by omega) with z | ⟨z, z'⟩ | ⟨z, z'⟩
  · have qz : mni I0 I1 = x0 := by rw [← qy]; unfold gx0; rw [if_pos (by omega), qI, qJ]; rfl
    have b2 : ∀ (ts : Array TypeId) (ty : TypeId) (w : World), (Builtin.min_ ts ty #[.int .i64 I0, .int .i64 I1]).run Tryz.prog w = .ok (.int .i64 x0) w := fun ts ty w => by rw [run_mn2, qz]
    rw [qx, qy]
    obtain ⟨R, qR⟩ : ∃ r, rtU tl x1 = r := ⟨_, rfl⟩
    obtain ⟨S, qS⟩ : ∃ r, rtU th x0 = r := ⟨_, rfl⟩
    rw [qR] at S1 r0 r1 l
    rw [qS] at S2 s0 s1
    rw [qR, qS] at mono
    have w7 : IntKind.i64.wrap (A + R) = A + R := IntWalk.i64_in _ (by omega)
    have w8 : IntKind.i64.wrap (B + S) = B + S := IntWalk.i64_in _ (by omega)
    have w9 : IntKind.i64.wrap (B + S + 1024) = B + S + 1024 := IntWalk.i64_in _ (by omega)
    have wa : IntKind.i64.wrap (B + S + 1024 - 1) = B + S + 1023 := by rw [show B + S + 1024 - 1 = B + S + 1023 by omega]; exact IntWalk.i64_in _ (by omega)
    have td1 : (A + R).tdiv 1024 = (A + R) / 1024 := Int.tdiv_eq_ediv_of_nonneg (by omega)
    have td2 : (B + S + 1023).tdiv 1024 = (B + S + 1023) / 1024 := Int.tdiv_eq_ediv_of_nonneg (by omega)
    obtain ⟨p, qp⟩ : ∃ p, (A + R) / 1024 = p := ⟨_, rfl⟩
    obtain ⟨r, qr⟩ : ∃ p, (B + S + 1023) / 1024 = p := ⟨_, rfl⟩
    rw [qp] at td1
    rw [qr] at td2
    rw [qR, qS, qp, qr]
    have p0 : 0 ≤ p ∧ p ≤ 100000 := by omega
    have r9 : 0 ≤ r ∧ r ≤ 100000 := by omega
    clear qR qS qp qr
    clear qy qz qx qx' qI qJ
    go_enter Tryz.func23, Tryz.ntmps23
    go_wp2_with fail
    with_reducible refine (HB _).mono ?_
    rintro e w1 ⟨rfl, hk1⟩
    refine kuse (b := w.heap.size) hk1 (by first | (simp; done) | (simp; omega) | omega) ?_
    intro ha hb
    have hz1_0 : w.heap.size < w1.heap.size := by have := hk1.size; (try simp at this); omega
    have hn1_0 : ¬ w.heap.size = w1.heap.size := by omega
    have hm1_0 : ¬ w1.heap.size = w.heap.size := by omega
    have hf1_0_0 : w1.cell? ⟨w.heap.size, 0, none⟩ = some (.int .i64 tl) := by first | (rw [ha]; with_reducible assumption) | (simp (maxDischargeDepth := 7) [go_sem, ha]; done) | (rw [ha]; assumption) | (simp (maxDischargeDepth := 7) [go_sem, ha, *]; done)
    have hf1_0_1 : w1.cell? ⟨w.heap.size, 1, none⟩ = some (.int .i64 th) := by first | (rw [ha]; with_reducible assumption) | (simp (maxDischargeDepth := 7) [go_sem, ha]; done) | (rw [ha]; assumption) | (simp (maxDischargeDepth := 7) [go_sem, ha, *]; done)
    try have hg1_0 : ∀ o, w1.frozen? ⟨w.heap.size, o, none⟩ = false := by intro o; first | (simp (maxDischargeDepth := 7) [go_sem, hb]; done) | (rw [hb]; simp (maxDischargeDepth := 7) [go_sem, *]; done)
    clear ha hb
    refine kuse (b := w.heap.size + 1) hk1 (by first | (simp; done) | (simp; omega) | omega) ?_
    intro ha hb
    have hz1_1 : w.heap.size + 1 < w1.heap.size := by have := hk1.size; (try simp at this); omega
    have hn1_1 : ¬ w.heap.size + 1 = w1.heap.size := by omega
    have hm1_1 : ¬ w1.heap.size = w.heap.size + 1 := by omega
    have hf1_1_0 : w1.cell? ⟨w.heap.size + 1, 0, none⟩ = some (.int .i64 el) := by first | (rw [ha]; with_reducible assumption) | (simp (maxDischargeDepth := 7) [go_sem, ha]; done) | (rw [ha]; assumption) | (simp (maxDischargeDepth := 7) [go_sem, ha, *]; done)
    have hf1_1_1 : w1.cell? ⟨w.heap.size + 1, 1, none⟩ = some (.int .i64 eh) := by first | (rw [ha]; with_reducible assumption) | (simp (maxDischargeDepth := 7) [go_sem, ha]; done) | (rw [ha]; assumption) | (simp (maxDischargeDepth := 7) [go_sem, ha, *]; done)
    have hf1_1_2 : w1.cell? ⟨w.heap.size + 1, 2, none⟩ = some (.int .i64 nl) := by first | (rw [ha]; with_reducible assumption) | (simp (maxDischargeDepth := 7) [go_sem, ha]; done) | (rw [ha]; assumption) | (simp (maxDischargeDepth := 7) [go_sem, ha, *]; done)
    have hf1_1_3 : w1.cell? ⟨w.heap.size + 1, 3, none⟩ = some (.int .i64 nh) := by first | (rw [ha]; with_reducible assumption) | (simp (maxDischargeDepth := 7) [go_sem, ha]; done) | (rw [ha]; assumption) | (simp (maxDischargeDepth := 7) [go_sem, ha, *]; done)
    try have hg1_1 : ∀ o, w1.frozen? ⟨w.heap.size + 1, o, none⟩ = false := by intro o; first | (simp (maxDischargeDepth := 7) [go_sem, hb]; done) | (rw [hb]; simp (maxDischargeDepth := 7) [go_sem, *]; done)
    clear ha hb
    refine kuse (b := w.heap.size + 2) hk1 (by first | (simp; done) | (simp; omega) | omega) ?_
    intro ha hb
    have hz1_2 : w.heap.size + 2 < w1.heap.size := by have := hk1.size; (try simp at this); omega
    have hn1_2 : ¬ w.heap.size + 2 = w1.heap.size := by omega
    have hm1_2 : ¬ w1.heap.size = w.heap.size + 2 := by omega
    have hf1_2_0 : w1.cell? ⟨w.heap.size + 2, 0, none⟩ = some (.int .i64 0) := by first | (rw [ha]; with_reducible assumption) | (simp (maxDischargeDepth := 7) [go_sem, ha]; done) | (rw [ha]; assumption) | (simp (maxDischargeDepth := 7) [go_sem, ha, *]; done)
    have hf1_2_1 : w1.cell? ⟨w.heap.size + 2, 1, none⟩ = some (.int .i64 0) := by first | (rw [ha]; with_reducible assumption) | (simp (maxDischargeDepth := 7) [go_sem, ha]; done) | (rw [ha]; assumption) | (simp (maxDischargeDepth := 7) [go_sem, ha, *]; done)
    try have hg1_2 : ∀ o, w1.frozen? ⟨w.heap.size + 2, o, none⟩ = false := by intro o; first | (simp (maxDischargeDepth := 7) [go_sem, hb]; done) | (rw [hb]; simp (maxDischargeDepth := 7) [go_sem, *]; done)
    clear ha hb
    go_wp2_with fail
    with_reducible refine (HX.out _).mono ?_
    rintro e w2 ⟨rfl, hk2⟩
    refine kuse (b := w.heap.size) hk2 (by first | (simp; done) | (simp; omega) | omega) ?_
    intro ha hb
    have hz2_0 : w.heap.size < w2.heap.size := by have := hk2.size; (try simp at this); omega
    have hn2_0 : ¬ w.heap.size = w2.heap.size := by omega
    have hm2_0 : ¬ w2.heap.size = w.heap.size := by omega
    have hf2_0_0 : w2.cell? ⟨w.heap.size, 0, none⟩ = some (.int .i64 tl) := by first | (rw [ha]; with_reducible assumption) | (simp (maxDischargeDepth := 7) [go_sem, ha]; done) | (rw [ha]; assumption) | (simp (maxDischargeDepth := 7) [go_sem, ha, *]; done)
    have hf2_0_1 : w2.cell? ⟨w.heap.size, 1, none⟩ = some (.int .i64 th) := by first | (rw [ha]; with_reducible assumption) | (simp (maxDischargeDepth := 7) [go_sem, ha]; done) | (rw [ha]; assumption) | (simp (maxDischargeDepth := 7) [go_sem, ha, *]; done)
    try have hg2_0 : ∀ o, w2.frozen? ⟨w.heap.size, o, none⟩ = false := by intro o; first | (simp (maxDischargeDepth := 7) [go_sem, hb]; done) | (rw [hb]; simp (maxDischargeDepth := 7) [go_sem, *]; done)
    clear ha hb
    refine kuse (b := w.heap.size + 1) hk2 (by first | (simp; done) | (simp; omega) | omega) ?_
    intro ha hb
    have hz2_1 : w.heap.size + 1 < w2.heap.size := by have := hk2.size; (try simp at this); omega
    have hn2_1 : ¬ w.heap.size + 1 = w2.heap.size := by omega
    have hm2_1 : ¬ w2.heap.size = w.heap.size + 1 := by omega
    have hf2_1_0 : w2.cell? ⟨w.heap.size + 1, 0, none⟩ = some (.int .i64 el) := by first | (rw [ha]; with_reducible assumption) | (simp (maxDischargeDepth := 7) [go_sem, ha]; done) | (rw [ha]; assumption) | (simp (maxDischargeDepth := 7) [go_sem, ha, *]; done)
    have hf2_1_1 : w2.cell? ⟨w.heap.size + 1, 1, none⟩ = some (.int .i64 eh) := by first | (rw [ha]; with_reducible assumption) | (simp (maxDischargeDepth := 7) [go_sem, ha]; done) | (rw [ha]; assumption) | (simp (maxDischargeDepth := 7) [go_sem, ha, *]; done)
    have hf2_1_2 : w2.cell? ⟨w.heap.size + 1, 2, none⟩ = some (.int .i64 nl) := by first | (rw [ha]; with_reducible assumption) | (simp (maxDischargeDepth := 7) [go_sem, ha]; done) | (rw [ha]; assumption) | (simp (maxDischargeDepth := 7) [go_sem, ha, *]; done)
    have hf2_1_3 : w2.cell? ⟨w.heap.size + 1, 3, none⟩ = some (.int .i64 nh) := by first | (rw [ha]; with_reducible assumption) | (simp (maxDischargeDepth := 7) [go_sem, ha]; done) | (rw [ha]; assumption) | (simp (maxDischargeDepth := 7) [go_sem, ha, *]; done)
    try have hg2_1 : ∀ o, w2.frozen? ⟨w.heap.size + 1, o, none⟩ = false := by intro o; first | (simp (maxDischargeDepth := 7) [go_sem, hb]; done) | (rw [hb]; simp (maxDischargeDepth := 7) [go_sem, *]; done)
    clear ha hb
    refine kuse (b := w.heap.size + 2) hk2 (by first | (simp; done) | (simp; omega) | omega) ?_
    intro ha hb
    have hz2_2 : w.heap.size + 2 < w2.heap.size := by have := hk2.size; (try simp at this); omega
    have hn2_2 : ¬ w.heap.size + 2 = w2.heap.size := by omega
    have hm2_2 : ¬ w2.heap.size = w.heap.size + 2 := by omega
    have hf2_2_0 : w2.cell? ⟨w.heap.size + 2, 0, none⟩ = some (.int .i64 0) := by first | (rw [ha]; with_reducible assumption) | (simp (maxDischargeDepth := 7) [go_sem, ha]; done) | (rw [ha]; assumption) | (simp (maxDischargeDepth := 7) [go_sem, ha, *]; done)
    have hf2_2_1 : w2.cell? ⟨w.heap.size + 2, 1, none⟩ = some (.int .i64 0) := by first | (rw [ha]; with_reducible assumption) | (simp (maxDischargeDepth := 7) [go_sem, ha]; done) | (rw [ha]; assumption) | (simp (maxDischargeDepth := 7) [go_sem, ha, *]; done)
    try have hg2_2 : ∀ o, w2.frozen? ⟨w.heap.size + 2, o, none⟩ = false := by intro o; first | (simp (maxDischargeDepth := 7) [go_sem, hb]; done) | (rw [hb]; simp (maxDischargeDepth := 7) [go_sem, *]; done)
    clear ha hb
    try clear hf1_0_0
    try clear hf1_0_1
    try clear hf1_1_0
    try clear hf1_1_1
    try clear hf1_1_2
    try clear hf1_1_3
    try clear hf1_2_0
    try clear hf1_2_1
    try clear hg1_0
    try clear hg1_1
    try clear hg1_2
    try clear hz1_1
    try clear hz1_2
    go_wp2_with fail
    go_region_held3 (fun W => W.cell? ⟨w2.heap.size + 1, 0, none⟩ = some (.int .i64 C) ∧ W.cell? ⟨w2.heap.size + 1, 1, none⟩ = some (.int .i64 D)) (first | (go_keep; done) | (simp (maxDischargeDepth := 9) [*, World.cell?_alloc_some, World.cell?_setCell_far]; done) | (simp (maxDischargeDepth := 9) [go_sem, *]; done)) (first | (go_at_call 40; with_reducible refine (A1.out _).mono ?_; rintro e w' ⟨rfl, rfl⟩) | (go_at_call 40; with_reducible refine (A2.out _).mono ?_; rintro e w' ⟨rfl, rfl⟩))
    all_goals go_wp2_with fail
    go_region_held3 (fun W => W.cell? ⟨w2.heap.size + 1, 0, none⟩ = some (.int .i64 C) ∧ W.cell? ⟨w2.heap.size + 1, 1, none⟩ = some (.int .i64 D)) (first | (go_keep; done) | (simp (maxDischargeDepth := 9) [*, World.cell?_alloc_some, World.cell?_setCell_far]; done) | (simp (maxDischargeDepth := 9) [go_sem, *]; done)) (first | (go_at_call 40; with_reducible refine (A1.out _).mono ?_; rintro e w' ⟨rfl, rfl⟩) | (go_at_call 40; with_reducible refine (A2.out _).mono ?_; rintro e w' ⟨rfl, rfl⟩))
    all_goals go_wp2_with fail
    go_quiet (fail)
    all_goals go_wp2_with fail
    go_region_held3 (fun W => W.cell? ⟨w2.heap.size, 0, none⟩ = some (.int .i64 A) ∧ W.cell? ⟨w2.heap.size, 1, none⟩ = some (.int .i64 B)) (first | (go_keep; done) | (simp (maxDischargeDepth := 9) [*, World.cell?_alloc_some, World.cell?_setCell_far]; done) | (simp (maxDischargeDepth := 9) [go_sem, *]; done)) (first | (go_at_call 41; with_reducible refine (S1.out _).mono ?_; rintro e w' ⟨rfl, rfl⟩))
    all_goals go_wp2_with fail
    go_region_held3 (fun W => W.cell? ⟨w2.heap.size, 0, none⟩ = some (.int .i64 A) ∧ W.cell? ⟨w2.heap.size, 1, none⟩ = some (.int .i64 B)) (first | (go_keep; done) | (simp (maxDischargeDepth := 9) [*, World.cell?_alloc_some, World.cell?_setCell_far]; done) | (simp (maxDischargeDepth := 9) [go_sem, *]; done)) (first | (go_at_call 41; with_reducible refine (S2.out _).mono ?_; rintro e w' ⟨rfl, rfl⟩))
    all_goals go_wp2_with fail
    all_goals exact bodyPost_ret (v := .tuple #[.agg #[.int .i64 p, .int .i64 r], .int .i64 0]) (by first | (simp [results, Tryz.results23, go_sem]; done) | (simp (maxDischargeDepth := 7) [results, Tryz.results23, go_sem, *]; done)) rfl ⟨rfl, (by repeat (first | with_reducible exact Kept.refl _ | with_reducible assumption | with_reducible refine Kept.setCell ?_ (by first | (simp; done) | (simp; omega) | omega) _ | with_reducible refine Kept.alloc ?_ _ | with_reducible refine Kept.drewN ?_ _ | with_reducible refine Kept.drew ?_ | with_reducible refine Kept.trans ?_ (by with_reducible assumption) | with_reducible refine Kept.dr ?_ (by with_reducible assumption)))⟩
  · have qz : mni I0 I1 = x0 := by rw [← qy]; unfold gx0; rw [if_pos (by omega), qI, qJ]; rfl
    have b2 : ∀ (ts : Array TypeId) (ty : TypeId) (w : World), (Builtin.min_ ts ty #[.int .i64 I0, .int .i64 I1]).run Tryz.prog w = .ok (.int .i64 x0) w := fun ts ty w => by rw [run_mn2, qz]
    rw [qx, qy]
    obtain ⟨R, qR⟩ : ∃ r, rtU tl x1 = r := ⟨_, rfl⟩
    obtain ⟨S, qS⟩ : ∃ r, rtU th x0 = r := ⟨_, rfl⟩
    rw [qR] at S1 r0 r1 l
    rw [qS] at S2 s0 s1
    rw [qR, qS] at mono
    have w7 : IntKind.i64.wrap (A + R) = A + R := IntWalk.i64_in _ (by omega)
    have w8 : IntKind.i64.wrap (B + S) = B + S := IntWalk.i64_in _ (by omega)
    have w9 : IntKind.i64.wrap (B + S + 1024) = B + S + 1024 := IntWalk.i64_in _ (by omega)
    have wa : IntKind.i64.wrap (B + S + 1024 - 1) = B + S + 1023 := by rw [show B + S + 1024 - 1 = B + S + 1023 by omega]; exact IntWalk.i64_in _ (by omega)
    have td1 : (A + R).tdiv 1024 = (A + R) / 1024 := Int.tdiv_eq_ediv_of_nonneg (by omega)
    have td2 : (B + S + 1023).tdiv 1024 = (B + S + 1023) / 1024 := Int.tdiv_eq_ediv_of_nonneg (by omega)
    obtain ⟨p, qp⟩ : ∃ p, (A + R) / 1024 = p := ⟨_, rfl⟩
    obtain ⟨r, qr⟩ : ∃ p, (B + S + 1023) / 1024 = p := ⟨_, rfl⟩
    rw [qp] at td1
    rw [qr] at td2
    rw [qR, qS, qp, qr]
    have p0 : 0 ≤ p ∧ p ≤ 100000 := by omega
    have r9 : 0 ≤ r ∧ r ≤ 100000 := by omega
    clear qR qS qp qr
    clear qy qz qx qx' qI qJ
    go_enter Tryz.func23, Tryz.ntmps23
    go_wp2_with fail
    with_reducible refine (HB _).mono ?_
    rintro e w1 ⟨rfl, hk1⟩
    refine kuse (b := w.heap.size) hk1 (by first | (simp; done) | (simp; omega) | omega) ?_
    intro ha hb
    have hz1_0 : w.heap.size < w1.heap.size := by have := hk1.size; (try simp at this); omega
    have hn1_0 : ¬ w.heap.size = w1.heap.size := by omega
    have hm1_0 : ¬ w1.heap.size = w.heap.size := by omega
    have hf1_0_0 : w1.cell? ⟨w.heap.size, 0, none⟩ = some (.int .i64 tl) := by first | (rw [ha]; with_reducible assumption) | (simp (maxDischargeDepth := 7) [go_sem, ha]; done) | (rw [ha]; assumption) | (simp (maxDischargeDepth := 7) [go_sem, ha, *]; done)
    have hf1_0_1 : w1.cell? ⟨w.heap.size, 1, none⟩ = some (.int .i64 th) := by first | (rw [ha]; with_reducible assumption) | (simp (maxDischargeDepth := 7) [go_sem, ha]; done) | (rw [ha]; assumption) | (simp (maxDischargeDepth := 7) [go_sem, ha, *]; done)
    try have hg1_0 : ∀ o, w1.frozen? ⟨w.heap.size, o, none⟩ = false := by intro o; first | (simp (maxDischargeDepth := 7) [go_sem, hb]; done) | (rw [hb]; simp (maxDischargeDepth := 7) [go_sem, *]; done)
    clear ha hb
    refine kuse (b := w.heap.size + 1) hk1 (by first | (simp; done) | (simp; omega) | omega) ?_
    intro ha hb
    have hz1_1 : w.heap.size + 1 < w1.heap.size := by have := hk1.size; (try simp at this); omega
    have hn1_1 : ¬ w.heap.size + 1 = w1.heap.size := by omega
    have hm1_1 : ¬ w1.heap.size = w.heap.size + 1 := by omega
    have hf1_1_0 : w1.cell? ⟨w.heap.size + 1, 0, none⟩ = some (.int .i64 el) := by first | (rw [ha]; with_reducible assumption) | (simp (maxDischargeDepth := 7) [go_sem, ha]; done) | (rw [ha]; assumption) | (simp (maxDischargeDepth := 7) [go_sem, ha, *]; done)
    have hf1_1_1 : w1.cell? ⟨w.heap.size + 1, 1, none⟩ = some (.int .i64 eh) := by first | (rw [ha]; with_reducible assumption) | (simp (maxDischargeDepth := 7) [go_sem, ha]; done) | (rw [ha]; assumption) | (simp (maxDischargeDepth := 7) [go_sem, ha, *]; done)
    have hf1_1_2 : w1.cell? ⟨w.heap.size + 1, 2, none⟩ = some (.int .i64 nl) := by first | (rw [ha]; with_reducible assumption) | (simp (maxDischargeDepth := 7) [go_sem, ha]; done) | (rw [ha]; assumption) | (simp (maxDischargeDepth := 7) [go_sem, ha, *]; done)
    have hf1_1_3 : w1.cell? ⟨w.heap.size + 1, 3, none⟩ = some (.int .i64 nh) := by first | (rw [ha]; with_reducible assumption) | (simp (maxDischargeDepth := 7) [go_sem, ha]; done) | (rw [ha]; assumption) | (simp (maxDischargeDepth := 7) [go_sem, ha, *]; done)
    try have hg1_1 : ∀ o, w1.frozen? ⟨w.heap.size + 1, o, none⟩ = false := by intro o; first | (simp (maxDischargeDepth := 7) [go_sem, hb]; done) | (rw [hb]; simp (maxDischargeDepth := 7) [go_sem, *]; done)
    clear ha hb
    refine kuse (b := w.heap.size + 2) hk1 (by first | (simp; done) | (simp; omega) | omega) ?_
    intro ha hb
    have hz1_2 : w.heap.size + 2 < w1.heap.size := by have := hk1.size; (try simp at this); omega
    have hn1_2 : ¬ w.heap.size + 2 = w1.heap.size := by omega
    have hm1_2 : ¬ w1.heap.size = w.heap.size + 2 := by omega
    have hf1_2_0 : w1.cell? ⟨w.heap.size + 2, 0, none⟩ = some (.int .i64 0) := by first | (rw [ha]; with_reducible assumption) | (simp (maxDischargeDepth := 7) [go_sem, ha]; done) | (rw [ha]; assumption) | (simp (maxDischargeDepth := 7) [go_sem, ha, *]; done)
    have hf1_2_1 : w1.cell? ⟨w.heap.size + 2, 1, none⟩ = some (.int .i64 0) := by first | (rw [ha]; with_reducible assumption) | (simp (maxDischargeDepth := 7) [go_sem, ha]; done) | (rw [ha]; assumption) | (simp (maxDischargeDepth := 7) [go_sem, ha, *]; done)
    try have hg1_2 : ∀ o, w1.frozen? ⟨w.heap.size + 2, o, none⟩ = false := by intro o; first | (simp (maxDischargeDepth := 7) [go_sem, hb]; done) | (rw [hb]; simp (maxDischargeDepth := 7) [go_sem, *]; done)
    clear ha hb
    go_wp2_with fail
    with_reducible refine (HX.out _).mono ?_
    rintro e w2 ⟨rfl, hk2⟩
    refine kuse (b := w.heap.size) hk2 (by first | (simp; done) | (simp; omega) | omega) ?_
    intro ha hb
    have hz2_0 : w.heap.size < w2.heap.size := by have := hk2.size; (try simp at this); omega
    have hn2_0 : ¬ w.heap.size = w2.heap.size := by omega
    have hm2_0 : ¬ w2.heap.size = w.heap.size := by omega
    have hf2_0_0 : w2.cell? ⟨w.heap.size, 0, none⟩ = some (.int .i64 tl) := by first | (rw [ha]; with_reducible assumption) | (simp (maxDischargeDepth := 7) [go_sem, ha]; done) | (rw [ha]; assumption) | (simp (maxDischargeDepth := 7) [go_sem, ha, *]; done)
    have hf2_0_1 : w2.cell? ⟨w.heap.size, 1, none⟩ = some (.int .i64 th) := by first | (rw [ha]; with_reducible assumption) | (simp (maxDischargeDepth := 7) [go_sem, ha]; done) | (rw [ha]; assumption) | (simp (maxDischargeDepth := 7) [go_sem, ha, *]; done)
    try have hg2_0 : ∀ o, w2.frozen? ⟨w.heap.size, o, none⟩ = false := by intro o; first | (simp (maxDischargeDepth := 7) [go_sem, hb]; done) | (rw [hb]; simp (maxDischargeDepth := 7) [go_sem, *]; done)
    clear ha hb
    refine kuse (b := w.heap.size + 1) hk2 (by first | (simp; done) | (simp; omega) | omega) ?_
    intro ha hb
    have hz2_1 : w.heap.size + 1 < w2.heap.size := by have := hk2.size; (try simp at this); omega
    have hn2_1 : ¬ w.heap.size + 1 = w2.heap.size := by omega
    have hm2_1 : ¬ w2.heap.size = w.heap.size + 1 := by omega
    have hf2_1_0 : w2.cell? ⟨w.heap.size + 1, 0, none⟩ = some (.int .i64 el) := by first | (rw [ha]; with_reducible assumption) | (simp (maxDischargeDepth := 7) [go_sem, ha]; done) | (rw [ha]; assumption) | (simp (maxDischargeDepth := 7) [go_sem, ha, *]; done)
    have hf2_1_1 : w2.cell? ⟨w.heap.size + 1, 1, none⟩ = some (.int .i64 eh) := by first | (rw [ha]; with_reducible assumption) | (simp (maxDischargeDepth := 7) [go_sem, ha]; done) | (rw [ha]; assumption) | (simp (maxDischargeDepth := 7) [go_sem, ha, *]; done)
    have hf2_1_2 : w2.cell? ⟨w.heap.size + 1, 2, none⟩ = some (.int .i64 nl) := by first | (rw [ha]; with_reducible assumption) | (simp (maxDischargeDepth := 7) [go_sem, ha]; done) | (rw [ha]; assumption) | (simp (maxDischargeDepth := 7) [go_sem, ha, *]; done)
    have hf2_1_3 : w2.cell? ⟨w.heap.size + 1, 3, none⟩ = some (.int .i64 nh) := by first | (rw [ha]; with_reducible assumption) | (simp (maxDischargeDepth := 7) [go_sem, ha]; done) | (rw [ha]; assumption) | (simp (maxDischargeDepth := 7) [go_sem, ha, *]; done)
    try have hg2_1 : ∀ o, w2.frozen? ⟨w.heap.size + 1, o, none⟩ = false := by intro o; first | (simp (maxDischargeDepth := 7) [go_sem, hb]; done) | (rw [hb]; simp (maxDischargeDepth := 7) [go_sem, *]; done)
    clear ha hb
    refine kuse (b := w.heap.size + 2) hk2 (by first | (simp; done) | (simp; omega) | omega) ?_
    intro ha hb
    have hz2_2 : w.heap.size + 2 < w2.heap.size := by have := hk2.size; (try simp at this); omega
    have hn2_2 : ¬ w.heap.size + 2 = w2.heap.size := by omega
    have hm2_2 : ¬ w2.heap.size = w.heap.size + 2 := by omega
    have hf2_2_0 : w2.cell? ⟨w.heap.size + 2, 0, none⟩ = some (.int .i64 0) := by first | (rw [ha]; with_reducible assumption) | (simp (maxDischargeDepth := 7) [go_sem, ha]; done) | (rw [ha]; assumption) | (simp (maxDischargeDepth := 7) [go_sem, ha, *]; done)
    have hf2_2_1 : w2.cell? ⟨w.heap.size + 2, 1, none⟩ = some (.int .i64 0) := by first | (rw [ha]; with_reducible assumption) | (simp (maxDischargeDepth := 7) [go_sem, ha]; done) | (rw [ha]; assumption) | (simp (maxDischargeDepth := 7) [go_sem, ha, *]; done)
    try have hg2_2 : ∀ o, w2.frozen? ⟨w.heap.size + 2, o, none⟩ = false := by intro o; first | (simp (maxDischargeDepth := 7) [go_sem, hb]; done) | (rw [hb]; simp (maxDischargeDepth := 7) [go_sem, *]; done)
    clear ha hb
    try clear hf1_0_0
    try clear hf1_0_1
    try clear hf1_1_0
    try clear hf1_1_1
    try clear hf1_1_2
    try clear hf1_1_3
    try clear hf1_2_0
    try clear hf1_2_1
    try clear hg1_0
    try clear hg1_1
    try clear hg1_2
    try clear hz1_1
    try clear hz1_2
    go_wp2_with fail
    go_region_held3 (fun W => W.cell? ⟨w2.heap.size + 1, 0, none⟩ = some (.int .i64 C) ∧ W.cell? ⟨w2.heap.size + 1, 1, none⟩ = some (.int .i64 D)) (first | (go_keep; done) | (simp (maxDischargeDepth := 9) [*, World.cell?_alloc_some, World.cell?_setCell_far]; done) | (simp (maxDischargeDepth := 9) [go_sem, *]; done)) (first | (go_at_call 40; with_reducible refine (A1.out _).mono ?_; rintro e w' ⟨rfl, rfl⟩) | (go_at_call 40; with_reducible refine (A2.out _).mono ?_; rintro e w' ⟨rfl, rfl⟩))
    all_goals go_wp2_with fail
    go_region_held3 (fun W => W.cell? ⟨w2.heap.size + 1, 0, none⟩ = some (.int .i64 C) ∧ W.cell? ⟨w2.heap.size + 1, 1, none⟩ = some (.int .i64 D)) (first | (go_keep; done) | (simp (maxDischargeDepth := 9) [*, World.cell?_alloc_some, World.cell?_setCell_far]; done) | (simp (maxDischargeDepth := 9) [go_sem, *]; done)) (first | (go_at_call 40; with_reducible refine (A1.out _).mono ?_; rintro e w' ⟨rfl, rfl⟩) | (go_at_call 40; with_reducible refine (A2.out _).mono ?_; rintro e w' ⟨rfl, rfl⟩))
    all_goals go_wp2_with fail
    go_quiet (fail)
    all_goals go_wp2_with fail
    go_region_held3 (fun W => W.cell? ⟨w2.heap.size, 0, none⟩ = some (.int .i64 A) ∧ W.cell? ⟨w2.heap.size, 1, none⟩ = some (.int .i64 B)) (first | (go_keep; done) | (simp (maxDischargeDepth := 9) [*, World.cell?_alloc_some, World.cell?_setCell_far]; done) | (simp (maxDischargeDepth := 9) [go_sem, *]; done)) (first | (go_at_call 41; with_reducible refine (S1.out _).mono ?_; rintro e w' ⟨rfl, rfl⟩))
    all_goals go_wp2_with fail
    go_region_held3 (fun W => W.cell? ⟨w2.heap.size, 0, none⟩ = some (.int .i64 A) ∧ W.cell? ⟨w2.heap.size, 1, none⟩ = some (.int .i64 B)) (first | (go_keep; done) | (simp (maxDischargeDepth := 9) [*, World.cell?_alloc_some, World.cell?_setCell_far]; done) | (simp (maxDischargeDepth := 9) [go_sem, *]; done)) (first | (go_at_call 41; with_reducible refine (S2.out _).mono ?_; rintro e w' ⟨rfl, rfl⟩))
    all_goals go_wp2_with fail
    all_goals exact bodyPost_ret (v := .tuple #[.agg #[.int .i64 p, .int .i64 r], .int .i64 0]) (by first | (simp [results, Tryz.results23, go_sem]; done) | (simp (maxDischargeDepth := 7) [results, Tryz.results23, go_sem, *]; done)) rfl ⟨rfl, (by repeat (first | with_reducible exact Kept.refl _ | with_reducible assumption | with_reducible refine Kept.setCell ?_ (by first | (simp; done) | (simp; omega) | omega) _ | with_reducible refine Kept.alloc ?_ _ | with_reducible refine Kept.drewN ?_ _ | with_reducible refine Kept.drew ?_ | with_reducible refine Kept.trans ?_ (by with_reducible assumption) | with_reducible refine Kept.dr ?_ (by with_reducible assumption)))⟩
  · have qz : x0 = 0 := by rw [← qy]; unfold gx0; rw [if_neg (by omega)]
    rw [qx, qy]
    obtain ⟨R, qR⟩ : ∃ r, rtU tl x1 = r := ⟨_, rfl⟩
    obtain ⟨S, qS⟩ : ∃ r, rtU th x0 = r := ⟨_, rfl⟩
    rw [qR] at S1 r0 r1 l
    rw [qS] at S2 s0 s1
    rw [qR, qS] at mono
    have w7 : IntKind.i64.wrap (A + R) = A + R := IntWalk.i64_in _ (by omega)
    have w8 : IntKind.i64.wrap (B + S) = B + S := IntWalk.i64_in _ (by omega)
    have w9 : IntKind.i64.wrap (B + S + 1024) = B + S + 1024 := IntWalk.i64_in _ (by omega)
    have wa : IntKind.i64.wrap (B + S + 1024 - 1) = B + S + 1023 := by rw [show B + S + 1024 - 1 = B + S + 1023 by omega]; exact IntWalk.i64_in _ (by omega)
    have td1 : (A + R).tdiv 1024 = (A + R) / 1024 := Int.tdiv_eq_ediv_of_nonneg (by omega)
    have td2 : (B + S + 1023).tdiv 1024 = (B + S + 1023) / 1024 := Int.tdiv_eq_ediv_of_nonneg (by omega)
    obtain ⟨p, qp⟩ : ∃ p, (A + R) / 1024 = p := ⟨_, rfl⟩
    obtain ⟨r, qr⟩ : ∃ p, (B + S + 1023) / 1024 = p := ⟨_, rfl⟩
    rw [qp] at td1
    rw [qr] at td2
    rw [qR, qS, qp, qr]
    have p0 : 0 ≤ p ∧ p ≤ 100000 := by omega
    have r9 : 0 ≤ r ∧ r ≤ 100000 := by omega
    clear qR qS qp qr
    rw [qz, show v * v - 0 * 0 = v * v by omega] at S2
    have wz0 : IntKind.i64.wrap 0 = 0 := by decide
    have wz1 : IntKind.i64.wrap (v * v - 0) = v * v := by rw [show v * v - 0 = v * v by omega]; exact w4
    clear qy qz qx qx' qI qJ
    go_enter Tryz.func23, Tryz.ntmps23
    go_wp2_with fail
    with_reducible refine (HB _).mono ?_
    rintro e w1 ⟨rfl, hk1⟩
    refine kuse (b := w.heap.size) hk1 (by first | (simp; done) | (simp; omega) | omega) ?_
    intro ha hb
    have hz1_0 : w.heap.size < w1.heap.size := by have := hk1.size; (try simp at this); omega
    have hn1_0 : ¬ w.heap.size = w1.heap.size := by omega
    have hm1_0 : ¬ w1.heap.size = w.heap.size := by omega
    have hf1_0_0 : w1.cell? ⟨w.heap.size, 0, none⟩ = some (.int .i64 tl) := by first | (rw [ha]; with_reducible assumption) | (simp (maxDischargeDepth := 7) [go_sem, ha]; done) | (rw [ha]; assumption) | (simp (maxDischargeDepth := 7) [go_sem, ha, *]; done)
    have hf1_0_1 : w1.cell? ⟨w.heap.size, 1, none⟩ = some (.int .i64 th) := by first | (rw [ha]; with_reducible assumption) | (simp (maxDischargeDepth := 7) [go_sem, ha]; done) | (rw [ha]; assumption) | (simp (maxDischargeDepth := 7) [go_sem, ha, *]; done)
    try have hg1_0 : ∀ o, w1.frozen? ⟨w.heap.size, o, none⟩ = false := by intro o; first | (simp (maxDischargeDepth := 7) [go_sem, hb]; done) | (rw [hb]; simp (maxDischargeDepth := 7) [go_sem, *]; done)
    clear ha hb
    refine kuse (b := w.heap.size + 1) hk1 (by first | (simp; done) | (simp; omega) | omega) ?_
    intro ha hb
    have hz1_1 : w.heap.size + 1 < w1.heap.size := by have := hk1.size; (try simp at this); omega
    have hn1_1 : ¬ w.heap.size + 1 = w1.heap.size := by omega
    have hm1_1 : ¬ w1.heap.size = w.heap.size + 1 := by omega
    have hf1_1_0 : w1.cell? ⟨w.heap.size + 1, 0, none⟩ = some (.int .i64 el) := by first | (rw [ha]; with_reducible assumption) | (simp (maxDischargeDepth := 7) [go_sem, ha]; done) | (rw [ha]; assumption) | (simp (maxDischargeDepth := 7) [go_sem, ha, *]; done)
    have hf1_1_1 : w1.cell? ⟨w.heap.size + 1, 1, none⟩ = some (.int .i64 eh) := by first | (rw [ha]; with_reducible assumption) | (simp (maxDischargeDepth := 7) [go_sem, ha]; done) | (rw [ha]; assumption) | (simp (maxDischargeDepth := 7) [go_sem, ha, *]; done)
    have hf1_1_2 : w1.cell? ⟨w.heap.size + 1, 2, none⟩ = some (.int .i64 nl) := by first | (rw [ha]; with_reducible assumption) | (simp (maxDischargeDepth := 7) [go_sem, ha]; done) | (rw [ha]; assumption) | (simp (maxDischargeDepth := 7) [go_sem, ha, *]; done)
    have hf1_1_3 : w1.cell? ⟨w.heap.size + 1, 3, none⟩ = some (.int .i64 nh) := by first | (rw [ha]; with_reducible assumption) | (simp (maxDischargeDepth := 7) [go_sem, ha]; done) | (rw [ha]; assumption) | (simp (maxDischargeDepth := 7) [go_sem, ha, *]; done)
    try have hg1_1 : ∀ o, w1.frozen? ⟨w.heap.size + 1, o, none⟩ = false := by intro o; first | (simp (maxDischargeDepth := 7) [go_sem, hb]; done) | (rw [hb]; simp (maxDischargeDepth := 7) [go_sem, *]; done)
    clear ha hb
    refine kuse (b := w.heap.size + 2) hk1 (by first | (simp; done) | (simp; omega) | omega) ?_
    intro ha hb
    have hz1_2 : w.heap.size + 2 < w1.heap.size := by have := hk1.size; (try simp at this); omega
    have hn1_2 : ¬ w.heap.size + 2 = w1.heap.size := by omega
    have hm1_2 : ¬ w1.heap.size = w.heap.size + 2 := by omega
    have hf1_2_0 : w1.cell? ⟨w.heap.size + 2, 0, none⟩ = some (.int .i64 0) := by first | (rw [ha]; with_reducible assumption) | (simp (maxDischargeDepth := 7) [go_sem, ha]; done) | (rw [ha]; assumption) | (simp (maxDischargeDepth := 7) [go_sem, ha, *]; done)
    have hf1_2_1 : w1.cell? ⟨w.heap.size + 2, 1, none⟩ = some (.int .i64 0) := by first | (rw [ha]; with_reducible assumption) | (simp (maxDischargeDepth := 7) [go_sem, ha]; done) | (rw [ha]; assumption) | (simp (maxDischargeDepth := 7) [go_sem, ha, *]; done)
    try have hg1_2 : ∀ o, w1.frozen? ⟨w.heap.size + 2, o, none⟩ = false := by intro o; first | (simp (maxDischargeDepth := 7) [go_sem, hb]; done) | (rw [hb]; simp (maxDischargeDepth := 7) [go_sem, *]; done)
    clear ha hb
    go_wp2_with fail
    with_reducible refine (HX.out _).mono ?_
    rintro e w2 ⟨rfl, hk2⟩
    refine kuse (b := w.heap.size) hk2 (by first | (simp; done) | (simp; omega) | omega) ?_
    intro ha hb
    have hz2_0 : w.heap.size < w2.heap.size := by have := hk2.size; (try simp at this); omega
    have hn2_0 : ¬ w.heap.size = w2.heap.size := by omega
    have hm2_0 : ¬ w2.heap.size = w.heap.size := by omega
    have hf2_0_0 : w2.cell? ⟨w.heap.size, 0, none⟩ = some (.int .i64 tl) := by first | (rw [ha]; with_reducible assumption) | (simp (maxDischargeDepth := 7) [go_sem, ha]; done) | (rw [ha]; assumption) | (simp (maxDischargeDepth := 7) [go_sem, ha, *]; done)
    have hf2_0_1 : w2.cell? ⟨w.heap.size, 1, none⟩ = some (.int .i64 th) := by first | (rw [ha]; with_reducible assumption) | (simp (maxDischargeDepth := 7) [go_sem, ha]; done) | (rw [ha]; assumption) | (simp (maxDischargeDepth := 7) [go_sem, ha, *]; done)
    try have hg2_0 : ∀ o, w2.frozen? ⟨w.heap.size, o, none⟩ = false := by intro o; first | (simp (maxDischargeDepth := 7) [go_sem, hb]; done) | (rw [hb]; simp (maxDischargeDepth := 7) [go_sem, *]; done)
    clear ha hb
    refine kuse (b := w.heap.size + 1) hk2 (by first | (simp; done) | (simp; omega) | omega) ?_
    intro ha hb
    have hz2_1 : w.heap.size + 1 < w2.heap.size := by have := hk2.size; (try simp at this); omega
    have hn2_1 : ¬ w.heap.size + 1 = w2.heap.size := by omega
    have hm2_1 : ¬ w2.heap.size = w.heap.size + 1 := by omega
    have hf2_1_0 : w2.cell? ⟨w.heap.size + 1, 0, none⟩ = some (.int .i64 el) := by first | (rw [ha]; with_reducible assumption) | (simp (maxDischargeDepth := 7) [go_sem, ha]; done) | (rw [ha]; assumption) | (simp (maxDischargeDepth := 7) [go_sem, ha, *]; done)
    have hf2_1_1 : w2.cell? ⟨w.heap.size + 1, 1, none⟩ = some (.int .i64 eh) := by first | (rw [ha]; with_reducible assumption) | (simp (maxDischargeDepth := 7) [go_sem, ha]; done) | (rw [ha]; assumption) | (simp (maxDischargeDepth := 7) [go_sem, ha, *]; done)
    have hf2_1_2 : w2.cell? ⟨w.heap.size + 1, 2, none⟩ = some (.int .i64 nl) := by first | (rw [ha]; with_reducible assumption) | (simp (maxDischargeDepth := 7) [go_sem, ha]; done) | (rw [ha]; assumption) | (simp (maxDischargeDepth := 7) [go_sem, ha, *]; done)
    have hf2_1_3 : w2.cell? ⟨w.heap.size + 1, 3, none⟩ = some (.int .i64 nh) := by first | (rw [ha]; with_reducible assumption) | (simp (maxDischargeDepth := 7) [go_sem, ha]; done) | (rw [ha]; assumption) | (simp (maxDischargeDepth := 7) [go_sem, ha, *]; done)
    try have hg2_1 : ∀ o, w2.frozen? ⟨w.heap.size + 1, o, none⟩ = false := by intro o; first | (simp (maxDischargeDepth := 7) [go_sem, hb]; done) | (rw [hb]; simp (maxDischargeDepth := 7) [go_sem, *]; done)
    clear ha hb
    refine kuse (b := w.heap.size + 2) hk2 (by first | (simp; done) | (simp; omega) | omega) ?_
    intro ha hb
    have hz2_2 : w.heap.size + 2 < w2.heap.size := by have := hk2.size; (try simp at this); omega
    have hn2_2 : ¬ w.heap.size + 2 = w2.heap.size := by omega
    have hm2_2 : ¬ w2.heap.size = w.heap.size + 2 := by omega
    have hf2_2_0 : w2.cell? ⟨w.heap.size + 2, 0, none⟩ = some (.int .i64 0) := by first | (rw [ha]; with_reducible assumption) | (simp (maxDischargeDepth := 7) [go_sem, ha]; done) | (rw [ha]; assumption) | (simp (maxDischargeDepth := 7) [go_sem, ha, *]; done)
    have hf2_2_1 : w2.cell? ⟨w.heap.size + 2, 1, none⟩ = some (.int .i64 0) := by first | (rw [ha]; with_reducible assumption) | (simp (maxDischargeDepth := 7) [go_sem, ha]; done) | (rw [ha]; assumption) | (simp (maxDischargeDepth := 7) [go_sem, ha, *]; done)
    try have hg2_2 : ∀ o, w2.frozen? ⟨w.heap.size + 2, o, none⟩ = false := by intro o; first | (simp (maxDischargeDepth := 7) [go_sem, hb]; done) | (rw [hb]; simp (maxDischargeDepth := 7) [go_sem, *]; done)
    clear ha hb
    try clear hf1_0_0
    try clear hf1_0_1
    try clear hf1_1_0
    try clear hf1_1_1
    try clear hf1_1_2
    try clear hf1_1_3
    try clear hf1_2_0
    try clear hf1_2_1
    try clear hg1_0
    try clear hg1_1
    try clear hg1_2
    try clear hz1_1
    try clear hz1_2
    go_wp2_with fail
    go_region_held3 (fun W => W.cell? ⟨w2.heap.size + 1, 0, none⟩ = some (.int .i64 C) ∧ W.cell? ⟨w2.heap.size + 1, 1, none⟩ = some (.int .i64 D)) (first | (go_keep; done) | (simp (maxDischargeDepth := 9) [*, World.cell?_alloc_some, World.cell?_setCell_far]; done) | (simp (maxDischargeDepth := 9) [go_sem, *]; done)) (first | (go_at_call 40; with_reducible refine (A1.out _).mono ?_; rintro e w' ⟨rfl, rfl⟩) | (go_at_call 40; with_reducible refine (A2.out _).mono ?_; rintro e w' ⟨rfl, rfl⟩))
    all_goals go_wp2_with fail
    go_quiet (fail)
    all_goals go_wp2_with fail
    go_region_held3 (fun W => W.cell? ⟨w2.heap.size, 0, none⟩ = some (.int .i64 A) ∧ W.cell? ⟨w2.heap.size, 1, none⟩ = some (.int .i64 B)) (first | (go_keep; done) | (simp (maxDischargeDepth := 9) [*, World.cell?_alloc_some, World.cell?_setCell_far]; done) | (simp (maxDischargeDepth := 9) [go_sem, *]; done)) (first | (go_at_call 41; with_reducible refine (S1.out _).mono ?_; rintro e w' ⟨rfl, rfl⟩))
    all_goals go_wp2_with fail
    go_region_held3 (fun W => W.cell? ⟨w2.heap.size, 0, none⟩ = some (.int .i64 A) ∧ W.cell? ⟨w2.heap.size, 1, none⟩ = some (.int .i64 B)) (first | (go_keep; done) | (simp (maxDischargeDepth := 9) [*, World.cell?_alloc_some, World.cell?_setCell_far]; done) | (simp (maxDischargeDepth := 9) [go_sem, *]; done)) (first | (go_at_call 41; with_reducible refine (S2.out _).mono ?_; rintro e w' ⟨rfl, rfl⟩))
    all_goals go_wp2_with fail
    all_goals exact bodyPost_ret (v := .tuple #[.agg #[.int .i64 p, .int .i64 r], .int .i64 0]) (by first | (simp [results, Tryz.results23, go_sem]; done) | (simp (maxDischargeDepth := 7) [results, Tryz.results23, go_sem, *]; done)) rfl ⟨rfl, (by repeat (first | with_reducible exact Kept.refl _ | with_reducible assumption | with_reducible refine Kept.setCell ?_ (by first | (simp; done) | (simp; omega) | omega) _ | with_reducible refine Kept.alloc ?_ _ | with_reducible refine Kept.drewN ?_ _ | with_reducible refine Kept.drew ?_ | with_reducible refine Kept.trans ?_ (by with_reducible assumption) | with_reducible refine Kept.dr ?_ (by with_reducible assumption)))⟩
set_option maxHeartbeats 2000000 in
set_option maxRecDepth 100000 in
theorem gi_w (c tl th el eh nl nh : Int) (c_0 : -9223372036854775808 ≤ c) (c_1 : c ≤ 9223372036854775807) (tl_0 : -9223372036854775808 ≤ tl) (tl_1 : tl ≤ 9223372036854775807) (th_0 : -9223372036854775808 ≤ th) (th_1 : th ≤ 9223372036854775807) (w : World) : Calls Tryz.prog 23 #[.int .i64 c, .agg #[.int .i64 tl, .int .i64 th], .agg #[.int .i64 el, .int .i64 eh, .int .i64 nl, .int .i64 nh]] w fun e w' => e = .returned (.tuple #[.agg #[.int .i64 (giL c tl th el eh nl nh), .int .i64 (giH c tl th el eh nl nh)], .int .i64 (giE c tl th el eh nl nh)]) ∧ Kept w w' := by
  by_cases h : bxB el eh nl nh = false ∨ tl < 1 ∨ 4000 < th ∨ th < tl
  · obtain ⟨x1, x2, x3⟩ := gi_E1 (c := c) h
    rw [x1, x2, x3]
    cases hw : bxB el eh nl nh with
    | false => exact gi_arg c tl th el eh nl nh c_0 c_1 tl_0 tl_1 th_0 th_1 hw w
    | true =>
      rw [hw] at h
      exact gi_tas c tl th el eh nl nh c_0 c_1 tl_0 tl_1 th_0 th_1 hw (by simpa using h) w
  · have hw : bxB el eh nl nh = true := by cases e : bxB el eh nl nh with | true => rfl | false => exact absurd (Or.inl e) h
    by_cases k : tl * 1024 ≤ gx1 (eCl c el eh nl nh) (eCh c el eh nl nh)
    · obtain ⟨x1, x2, x3⟩ := gi_E2 h k
      rw [x1, x2, x3]
      exact gi_g1 c tl th el eh nl nh c_0 c_1 hw (by omega) (by omega) (by omega) k w
    · by_cases l : eAl c el eh nl nh + rtU tl (gx1 (eCl c el eh nl nh) (eCh c el eh nl nh)) < 1024
      · obtain ⟨x1, x2, x3⟩ := gi_E3 h k l
        rw [x1, x2, x3]
        exact gi_g2 c tl th el eh nl nh c_0 c_1 hw (by omega) (by omega) (by omega) k l w
      · obtain ⟨x1, x2, x3⟩ := gi_E0 h k l
        rw [x1, x2, x3]
        exact gi_yes c tl th el eh nl nh c_0 c_1 hw (by omega) (by omega) (by omega) k l w
end Go.Proofs.YtfpgdicacjkfoaaGreatDoor
