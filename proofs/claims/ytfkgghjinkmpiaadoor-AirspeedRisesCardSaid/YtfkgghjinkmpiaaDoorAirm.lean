/-
  Own contracts: package atmosphere and the document's answers of layer 29.
-/
import Derived.Test.YtfkgghjinkmpiaaDoorAtmn
import Derived.Test.YtfkgghjinkmpiaaDoorRefb
import Derived.Test.YtfkgghjinkmpiaaDoorBase
import Derived.Test.YtfkgghjinkmpiaaDoorRows
import Derived.Outline
import Derived.WalkKit
import Derived.ProofKit
import Derived.OpenShut
import Derived.WalkLawsBesides
import Derived.WalkSpells
import Derived.Lib.Hide
import Derived.Deep.DeepCutAuto
import Derived.Deep.CutBlock
import Derived.Deep.QuietTactic
import Derived.BigQuiet
import Derived.Handy
import Derived.StillTailTactics
import Derived.IntWalk
import Derived.LoopN
import Derived.Deep.RegionHeld3
namespace Go.Proofs.YtfkgghjinkmpiaaDoor
open Go.ChangeShapes Go.WideShapes Go.ChangeAt Go.RowKit
set_option linter.unusedVariables false
set_option linter.unusedSimpArgs false
theorem withF {p G : Prop} (h : p) (g : p → G) : G := g h
theorem retb {b : Bool} (h : b = true) : Ending.returned (.bool b) = .returned (.bool true) := by rw [h]
theorem kcell {W w1 : World} (h : Kept W w1) (b : Nat) (hb : b < W.heap.size) : (∀ o, w1.cell? ⟨b, o, none⟩ = W.cell? ⟨b, o, none⟩) ∧ (∀ o, w1.frozen? ⟨b, o, none⟩ = W.frozen? ⟨b, o, none⟩) :=
  ⟨fun o => h.cell (p := ⟨b, o, none⟩) hb, fun o => h.frozen (p := ⟨b, o, none⟩) hb⟩
theorem kuse {W w1 : World} {b : Nat} {G : Prop} (h : Kept W w1) (hb : b < W.heap.size) (g : (∀ o, w1.cell? ⟨b, o, none⟩ = W.cell? ⟨b, o, none⟩) → (∀ o, w1.frozen? ⟨b, o, none⟩ = W.frozen? ⟨b, o, none⟩) → G) : G := g (kcell h b hb).1 (kcell h b hb).2
theorem kfacts {W w1 : World} (h : Kept W w1) : (∀ b o, b < W.heap.size → w1.cell? ⟨b, o, none⟩ = W.cell? ⟨b, o, none⟩) ∧ (∀ b o, b < W.heap.size → w1.frozen? ⟨b, o, none⟩ = W.frozen? ⟨b, o, none⟩) ∧ W.heap.size ≤ w1.heap.size :=
  ⟨fun b o hb => h.cell (p := ⟨b, o, none⟩) hb, fun b o hb => h.frozen (p := ⟨b, o, none⟩) hb, h.size⟩

/-- the three tables, as the row lays them -/
structure Tab (w : World) : Prop where
  ratf : ∀ i : Nat, i < 14 → w.cell? ⟨0, i * 2, none⟩ = some (.int .i64 (ratF i))
  ratv : ∀ i : Nat, i < 14 → w.cell? ⟨0, i * 2 + 1, none⟩ = some (.int .i64 (ratV i))
  tmpf : ∀ i : Nat, i < 4 → w.cell? ⟨1, i * 2, none⟩ = some (.int .i64 (tmpF i))
  tmpv : ∀ i : Nat, i < 4 → w.cell? ⟨1, i * 2 + 1, none⟩ = some (.int .i64 (tmpV i))
theorem cell_on {w w' : World} (hk : Kept w.drew w') {p : Addr} {v : Value} (h : w.cell? p = some v) : w'.cell? p = some v := (hk.cell (World.block_lt_of_cell? _ _ h)).trans h
theorem tab_kept {w w' : World} (h : Tab w) (hk : Kept w w') : Tab w' :=
  ⟨fun i hi => (hk.cell (World.block_lt_of_cell? _ _ (h.ratf i hi))).trans (h.ratf i hi), fun i hi => (hk.cell (World.block_lt_of_cell? _ _ (h.ratv i hi))).trans (h.ratv i hi), fun i hi => (hk.cell (World.block_lt_of_cell? _ _ (h.tmpf i hi))).trans (h.tmpf i hi), fun i hi => (hk.cell (World.block_lt_of_cell? _ _ (h.tmpv i hi))).trans (h.tmpv i hi)⟩
/-- the value and the error's number of a quotient that fits -/
theorem md_part (a b c : Int) (h0 : 0 ≤ b) (h1 : b ≤ c) (h2 : 0 < c) (a0 : -9223372036854775807 ≤ a) (a1 : a ≤ 9223372036854775807) (c1 : c ≤ 9223372036854775807) (y : Int) (hy : a * b / c = y) (w : World) :
    Calls Tryd.prog 51 #[.int .i64 a, .int .i64 b, .int .i64 c] w fun e w' => e = .returned (.tuple #[.int .i64 y, .int .i64 0]) ∧ Dr w w' := by
  have h := muldiv_w a b c (by omega) (by omega) (by omega) (by omega) (by omega) (by omega) w
  obtain ⟨e1, e2⟩ := mqv_part a b c h0 h1 h2 a0 a1
  rwa [e1, e2, hy] at h
set_option maxHeartbeats 1000000 in
theorem between_w (f0 v0 f1 v1 alt : Int) (hf0 : -2000 ≤ f0) (hf : f0 < f1) (hf1 : f1 ≤ 60000) (hv0 : 0 ≤ v0) (hv0' : v0 ≤ 4000000) (hv1 : 0 ≤ v1) (hv1' : v1 ≤ 4000000) (ha : f0 * 100 ≤ alt) (ha' : alt ≤ f1 * 100) (w : World) :
    Calls Tryd.prog 52 #[.agg #[.int .i64 f0, .int .i64 v0], .agg #[.int .i64 f1, .int .i64 v1], .int .i64 alt] w fun en w' => en = .returned (.int .i64 (btw f0 v0 f1 v1 alt)) ∧ Kept w w' := by
  obtain ⟨y, hy⟩ : ∃ y, (v1 - v0) * (alt - f0 * 100) / ((f1 - f0) * 100) = y := ⟨_, rfl⟩
  have hb := part_bd (v1 - v0) (alt - f0 * 100) ((f1 - f0) * 100) (by omega) (by omega) (by omega)
  rw [hy] at hb
  have yb : -4000000 ≤ y ∧ y ≤ 4000000 := by
    by_cases h : 0 ≤ v1 - v0
    · have := hb.1 h; omega
    · have := hb.2 (by omega); omega
  obtain ⟨y0, y1⟩ := yb
  have hm := md_part (v1 - v0) (alt - f0 * 100) ((f1 - f0) * 100) (by omega) (by omega) (by omega) (by omega) (by omega) (by omega) y hy
  have E : Hid (btw f0 v0 f1 v1 alt = v0 + y) := Lib.hid (by unfold btw; rw [hy])
  clear hy hb
  go_enter Tryd.func52, Tryd.ntmps52
  go_wp2_with fail
  refine (hm _).mono ?_
  rintro e w1 ⟨rfl, hd⟩
  have hk := hd.kept
  refine kuse (b := w.heap.size) hk (by first | (simp; done) | (simp; omega) | omega) ?_
  intro ha hb
  have hz1_0 : w.heap.size < w1.heap.size := by have := hk.size; (try simp at this); omega
  have hn1_0 : ¬ w.heap.size = w1.heap.size := by omega
  have hm1_0 : ¬ w1.heap.size = w.heap.size := by omega
  have hf1_0_0 : w1.cell? ⟨w.heap.size, 0, none⟩ = some (.int .i64 f0) := by first | (rw [ha]; with_reducible assumption) | (simp (maxDischargeDepth := 7) [go_sem, ha]; done) | (rw [ha]; assumption) | (simp (maxDischargeDepth := 7) [go_sem, ha, *]; done)
  have hf1_0_1 : w1.cell? ⟨w.heap.size, 1, none⟩ = some (.int .i64 v0) := by first | (rw [ha]; with_reducible assumption) | (simp (maxDischargeDepth := 7) [go_sem, ha]; done) | (rw [ha]; assumption) | (simp (maxDischargeDepth := 7) [go_sem, ha, *]; done)
  try have hg1_0 : ∀ o, w1.frozen? ⟨w.heap.size, o, none⟩ = false := by intro o; first | (simp (maxDischargeDepth := 7) [go_sem, hb]; done) | (rw [hb]; simp (maxDischargeDepth := 7) [go_sem, *]; done)
  clear ha hb
  refine kuse (b := w.heap.size + 1) hk (by first | (simp; done) | (simp; omega) | omega) ?_
  intro ha hb
  have hz1_1 : w.heap.size + 1 < w1.heap.size := by have := hk.size; (try simp at this); omega
  have hn1_1 : ¬ w.heap.size + 1 = w1.heap.size := by omega
  have hm1_1 : ¬ w1.heap.size = w.heap.size + 1 := by omega
  have hf1_1_0 : w1.cell? ⟨w.heap.size + 1, 0, none⟩ = some (.int .i64 f1) := by first | (rw [ha]; with_reducible assumption) | (simp (maxDischargeDepth := 7) [go_sem, ha]; done) | (rw [ha]; assumption) | (simp (maxDischargeDepth := 7) [go_sem, ha, *]; done)
  have hf1_1_1 : w1.cell? ⟨w.heap.size + 1, 1, none⟩ = some (.int .i64 v1) := by first | (rw [ha]; with_reducible assumption) | (simp (maxDischargeDepth := 7) [go_sem, ha]; done) | (rw [ha]; assumption) | (simp (maxDischargeDepth := 7) [go_sem, ha, *]; done)
  try have hg1_1 : ∀ o, w1.frozen? ⟨w.heap.size + 1, o, none⟩ = false := by intro o; first | (simp (maxDischargeDepth := 7) [go_sem, hb]; done) | (rw [hb]; simp (maxDischargeDepth := 7) [go_sem, *]; done)
  clear ha hb

  go_wp2_with fail
  go_ret
  exact ⟨by rw [E.out]; rfl, (by repeat (first | with_reducible exact Kept.refl _ | with_reducible assumption | with_reducible refine Kept.setCell ?_ (by first | (simp; done) | (simp; omega) | omega) _ | with_reducible refine Kept.alloc ?_ _ | with_reducible refine Kept.drewN ?_ _ | with_reducible refine Kept.drew ?_ | with_reducible refine Kept.trans ?_ (by with_reducible assumption) | with_reducible refine Kept.dr ?_ (by with_reducible assumption)))⟩
theorem checkalt_ok (alt : Int) (h0 : -200000 ≤ alt) (h1 : alt ≤ 6000000) (w : World) : Calls Tryd.prog 64 #[.int .i64 alt] w fun en w' => en = .returned (.int .i64 0) ∧ w = w' := by
  go_enter Tryd.func64, Tryd.ntmps64
  go_wp2
  go_ret
  exact ⟨rfl, rfl⟩
theorem checkalt_bad (alt : Int) (h : alt < -200000 ∨ 6000000 < alt) (w : World) : Calls Tryd.prog 64 #[.int .i64 alt] w fun en w' => en = .returned (.int .i64 2) ∧ w = w' := by
  rcases h with h | h
  all_goals
    go_enter Tryd.func64, Tryd.ntmps64
    go_wp2
    all_goals (first | (exfalso; omega) | (go_ret; exact ⟨rfl, rfl⟩))
theorem check_ok (alt dev : Int) (h0 : -200000 ≤ alt) (h1 : alt ≤ 6000000) (d0 : -4000 ≤ dev) (d1 : dev ≤ 4000) (w : World) : Calls Tryd.prog 50 #[.int .i64 alt, .int .i64 dev] w fun en w' => en = .returned (.int .i64 0) ∧ w = w' := by
  go_enter Tryd.func50, Tryd.ntmps50
  go_wp2_with (first | (go_at_call 64; refine (checkalt_ok alt h0 h1 _).mono ?_; rintro e w' ⟨rfl, rfl⟩))
  all_goals (go_ret; exact ⟨rfl, rfl⟩)
theorem check_alt (alt dev : Int) (h : alt < -200000 ∨ 6000000 < alt) (w : World) : Calls Tryd.prog 50 #[.int .i64 alt, .int .i64 dev] w fun en w' => en = .returned (.int .i64 2) ∧ w = w' := by
  go_enter Tryd.func50, Tryd.ntmps50
  go_wp2_with (first | (go_at_call 64; refine (checkalt_bad alt h _).mono ?_; rintro e w' ⟨rfl, rfl⟩))
  all_goals (go_ret; exact ⟨rfl, rfl⟩)
theorem check_dev (alt dev : Int) (h0 : -200000 ≤ alt) (h1 : alt ≤ 6000000) (h : dev < -4000 ∨ 4000 < dev) (w : World) : Calls Tryd.prog 50 #[.int .i64 alt, .int .i64 dev] w fun en w' => en = .returned (.int .i64 1) ∧ w = w' := by
  rcases h with h | h
  all_goals
    go_enter Tryd.func50, Tryd.ntmps50
    go_wp2_with (first | (go_at_call 64; refine (checkalt_ok alt h0 h1 _).mono ?_; rintro e w' ⟨rfl, rfl⟩))
    all_goals (first | (exfalso; omega) | (go_ret; exact ⟨rfl, rfl⟩))
theorem temperature_alt (alt dev : Int) (h : alt < -200000 ∨ 6000000 < alt) (w : World) : Calls Tryd.prog 55 #[.int .i64 alt, .int .i64 dev] w fun en w' => en = .returned (.tuple #[.int .i64 0, .int .i64 2]) ∧ w = w' := by
  go_enter Tryd.func55, Tryd.ntmps55
  go_wp2_with (first | (go_at_call 50; refine (check_alt alt dev h _).mono ?_; rintro e w' ⟨rfl, rfl⟩))
  all_goals (go_ret2; exact ⟨rfl, rfl⟩)
theorem temperature_dev (alt dev : Int) (h0 : -200000 ≤ alt) (h1 : alt ≤ 6000000) (h : dev < -4000 ∨ 4000 < dev) (w : World) : Calls Tryd.prog 55 #[.int .i64 alt, .int .i64 dev] w fun en w' => en = .returned (.tuple #[.int .i64 0, .int .i64 1]) ∧ w = w' := by
  go_enter Tryd.func55, Tryd.ntmps55
  go_wp2_with (first | (go_at_call 50; refine (check_dev alt dev h0 h1 h _).mono ?_; rintro e w' ⟨rfl, rfl⟩))
  all_goals (go_ret2; exact ⟨rfl, rfl⟩)
theorem ratio_alt (alt dev : Int) (h : alt < -200000 ∨ 6000000 < alt) (w : World) : Calls Tryd.prog 30 #[.int .i64 alt, .int .i64 dev] w fun en w' => en = .returned (.tuple #[.int .i64 0, .int .i64 2]) ∧ w = w' := by
  go_enter Tryd.func30, Tryd.ntmps30
  go_wp2_with (first | (go_at_call 50; refine (check_alt alt dev h _).mono ?_; rintro e w' ⟨rfl, rfl⟩))
  all_goals (go_ret2; exact ⟨rfl, rfl⟩)
theorem ratio_dev (alt dev : Int) (h0 : -200000 ≤ alt) (h1 : alt ≤ 6000000) (h : dev < -4000 ∨ 4000 < dev) (w : World) : Calls Tryd.prog 30 #[.int .i64 alt, .int .i64 dev] w fun en w' => en = .returned (.tuple #[.int .i64 0, .int .i64 1]) ∧ w = w' := by
  go_enter Tryd.func30, Tryd.ntmps30
  go_wp2_with (first | (go_at_call 50; refine (check_dev alt dev h0 h1 h _).mono ?_; rintro e w' ⟨rfl, rfl⟩))
  all_goals (go_ret2; exact ⟨rfl, rfl⟩)
set_option maxHeartbeats 1000000 in
theorem temperature_ok (alt dev : Int) (h0 : -200000 ≤ alt) (h1 : alt ≤ 6000000) (d0 : -4000 ≤ dev) (d1 : dev ≤ 4000) (w : World) (ht : Hid (Tab w)) : Calls Tryd.prog 55 #[.int .i64 alt, .int .i64 dev] w fun en w' => en = .returned (.tuple #[.int .i64 (tmp alt + dev), .int .i64 0]) ∧ Kept w w' := by

  go_enter Tryd.func55, Tryd.ntmps55
  go_wp2_with (first | (go_at_call 50; refine (check_ok alt dev h0 h1 d0 d1 _).mono ?_; rintro e w' ⟨rfl, rfl⟩))
  go_loop [7] (fun t => ∃ j : Nat, j < 3 ∧ t = .int .i64 ((j : Int) + 1) ∧ tmpF j * 100 ≤ alt) (fun t => 20 - (intOf t).toNat)
  case atStart => exact ⟨0, by omega, rfl, by simp [tmpF]; omega⟩
  case round =>
    obtain ⟨j, hj, rfl, hlo⟩ := hrel
    have hT := ht.out
    have H0 := hT.tmpf j (by omega)
    have H1 := hT.tmpf (j + 1) (by omega)
    have H2 := hT.tmpv j (by omega)
    have H3 := hT.tmpv (j + 1) (by omega)
    have tb := tmp_tab j (by omega)
    have at_ := tmp_at j alt (by omega)
    have e13 : j + 1 = 3 → alt ≤ tmpF (j + 1) * 100 := fun e => by rw [e]; simp [tmpF]; omega
    generalize hf1 : tmpF (j + 1) = f1 at H1 tb at_ e13
    have HF1 := Lib.hid hf1
    clear hf1
    generalize tmpF j = f0 at H0 tb at_ hlo
    generalize tmpV j = v0 at H2 tb at_
    generalize tmpV (j + 1) = v1 at H3 tb at_
    obtain ⟨t1, t2, t3, t4, t5, t6, t7⟩ := tb
    have AT := Lib.hid at_
    have E13 := Lib.hid e13
    clear at_ e13 hT
    by_cases hc : f1 * 100 < alt
    · skip
      have hj2 : j + 1 < 3 := by have := E13.out; omega
      clear H0 H2 H3
      go_wp2_with fail
      go_round
      case rel => exact ⟨j + 1, hj2, by go_num, by rw [HF1.out]; omega⟩
      case measure => simp [intOf]; omega
    · have ev := AT.out hlo (by omega)
      have bw := between_w f0 v0 f1 v1 alt t1 t2 t3 t4 t5 t6 t7 hlo (by omega)
      have bd := tmp_bd alt (by omega) (by omega)
      generalize btw f0 v0 f1 v1 alt = B at ev bw
      rw [ev] at bd
      have EV := Lib.hid ev
      clear ev
      go_wp2_with fail
      have hwd : IntKind.i64.wrap (B + dev) = B + dev := IntWalk.i64_in _ (by omega)
      have hw0 : IntKind.i64.wrap (j : Int) = (j : Int) := IntWalk.i64_in _ (by omega)
      have hw8 : IntKind.i64.wrap ((j : Int) + 1) = (j : Int) + 1 := IntWalk.i64_in _ (by omega)
      have hw1 : IntKind.i64.wrap ((j : Int) + 1 - 1) = (j : Int) := by rw [show (j : Int) + 1 - 1 = j by omega]; exact IntWalk.i64_in _ (by omega)
      have hw2 : ((j : Int) + 1).toNat = j + 1 := by omega
      have hw3 : (0 : Int) ≤ (j : Int) := by omega
      have hw4 : (j : Int) < 4 := by omega
      have hw5 : (0 : Int) ≤ (j : Int) + 1 := by omega
      have hw6 : (j : Int) + 1 < 4 := by omega
      go_region_held3 (fun W => W.cell? ⟨1, j * 2, none⟩ = some (.int .i64 f0) ∧ W.cell? ⟨1, j * 2 + 1, none⟩ = some (.int .i64 v0) ∧ W.cell? ⟨1, (j + 1) * 2, none⟩ = some (.int .i64 f1) ∧ W.cell? ⟨1, (j + 1) * 2 + 1, none⟩ = some (.int .i64 v1)) (go_keep) (first | (go_at_call 52; (with_reducible refine (bw _).mono ?_); rintro e w' ⟨rfl, hk⟩; have g0 := cell_on hk H0; have g1 := cell_on hk H1; have g2 := cell_on hk H2; have g3 := cell_on hk H3))
      all_goals go_wp2_with fail
      all_goals (go_ret2; exact ⟨by rw [EV.out]; rfl, (by repeat (first | with_reducible exact Kept.refl _ | with_reducible assumption | with_reducible refine Kept.setCell ?_ (by first | (simp; done) | (simp; omega) | omega) _ | with_reducible refine Kept.alloc ?_ _ | with_reducible refine Kept.drewN ?_ _ | with_reducible refine Kept.drew ?_ | with_reducible refine Kept.trans ?_ (by with_reducible assumption) | with_reducible refine Kept.dr ?_ (by with_reducible assumption)))⟩)
def ratD (alt dev : Int) : Int := rat alt * (57630 + dev) / 57630
theorem prod_bd (a b : Int) (a0 : 0 ≤ a) (a1 : a ≤ 4000000) (b0 : 0 ≤ b) (b1 : b ≤ 100000) : 0 ≤ a * b ∧ a * b ≤ 400000000000 :=
  ⟨Int.mul_nonneg a0 b0, Int.le_trans (Int.mul_le_mul a1 b1 b0 (by omega)) (by decide)⟩
theorem mqv_small (a b : Int) (a0 : 0 ≤ a) (a1 : a ≤ 4000000) (b0 : 0 ≤ b) (b1 : b ≤ 100000) : mqv 0 a b 57630 = a * b / 57630 ∧ mqe 0 a b 57630 = 0 := by
  have h := prod_bd a b a0 a1 b0 b1
  have e : rnd 0 (a * b) 57630 = a * b / 57630 := by unfold rnd; rw [if_pos rfl, Int.fdiv_eq_ediv_of_nonneg _ (by omega)]
  have hf : fit64 (rnd 0 (a * b) 57630) = true := by
    rw [e]; unfold fit64
    refine decide_eq_true ?_
    generalize a * b = z at h
    omega
  unfold mqv mqe
  rw [if_neg (show ¬ (57630 : Int) = 0 by decide), if_pos hf, if_neg (show ¬ (57630 : Int) = 0 by decide), if_pos hf, e]
  exact ⟨rfl, rfl⟩
theorem md_small (a b y : Int) (a0 : 0 ≤ a) (a1 : a ≤ 4000000) (b0 : 0 ≤ b) (b1 : b ≤ 100000) (hy : a * b / 57630 = y) (w : World) :
    Calls Tryd.prog 51 #[.int .i64 a, .int .i64 b, .int .i64 57630] w fun e w' => e = .returned (.tuple #[.int .i64 y, .int .i64 0]) ∧ Dr w w' := by
  have h := muldiv_w a b 57630 (by omega) (by omega) (by omega) (by omega) (by omega) (by omega) w
  obtain ⟨e1, e2⟩ := mqv_small a b a0 a1 b0 b1
  rwa [e1, e2, hy] at h
set_option maxHeartbeats 1000000 in
theorem ratio_ok (alt dev : Int) (h0 : -200000 ≤ alt) (h1 : alt ≤ 6000000) (d0 : -4000 ≤ dev) (d1 : dev ≤ 4000) (w : World) (ht : Hid (Tab w)) : Calls Tryd.prog 30 #[.int .i64 alt, .int .i64 dev] w fun en w' => en = .returned (.tuple #[.int .i64 (ratD alt dev), .int .i64 0]) ∧ Kept w w' := by

  go_enter Tryd.func30, Tryd.ntmps30
  go_wp2_with (first | (go_at_call 50; refine (check_ok alt dev h0 h1 d0 d1 _).mono ?_; rintro e w' ⟨rfl, rfl⟩))
  go_loop [7] (fun t => ∃ j : Nat, j < 13 ∧ t = .int .i64 ((j : Int) + 1) ∧ ratF j * 100 ≤ alt) (fun t => 20 - (intOf t).toNat)
  case atStart => exact ⟨0, by omega, rfl, by simp [ratF]; omega⟩
  case round =>
    obtain ⟨j, hj, rfl, hlo⟩ := hrel
    have hT := ht.out
    have H0 := hT.ratf j (by omega)
    have H1 := hT.ratf (j + 1) (by omega)
    have H2 := hT.ratv j (by omega)
    have H3 := hT.ratv (j + 1) (by omega)
    have tb := rat_tab j (by omega)
    have at_ := rat_at j alt (by omega)
    have e13 : j + 1 = 13 → alt ≤ ratF (j + 1) * 100 := fun e => by rw [e]; simp [ratF]; omega
    generalize hf1 : ratF (j + 1) = f1 at H1 tb at_ e13
    have HF1 := Lib.hid hf1
    clear hf1
    generalize ratF j = f0 at H0 tb at_ hlo
    generalize ratV j = v0 at H2 tb at_
    generalize ratV (j + 1) = v1 at H3 tb at_
    obtain ⟨t1, t2, t3, t4, t5, t6, t7⟩ := tb
    have AT := Lib.hid at_
    have E13 := Lib.hid e13
    clear at_ e13 hT
    by_cases hc : f1 * 100 < alt
    · skip
      have hj2 : j + 1 < 13 := by have := E13.out; omega
      clear H0 H2 H3
      go_wp2_with fail
      go_round
      case rel => exact ⟨j + 1, hj2, by go_num, by rw [HF1.out]; omega⟩
      case measure => simp [intOf]; omega
    · have ev := AT.out hlo (by omega)
      have bw := between_w f0 v0 f1 v1 alt t1 t2 t3 t4 t5 t6 t7 hlo (by omega)
      have bd := rat_bd alt (by omega) (by omega)
      generalize btw f0 v0 f1 v1 alt = B at ev bw
      rw [ev] at bd
      have EV := Lib.hid ev
      clear ev
      go_wp2_with fail
      have hwd : IntKind.i64.wrap (57630 + dev) = 57630 + dev := IntWalk.i64_in _ (by omega)
      obtain ⟨Y, hY⟩ : ∃ Y, B * (57630 + dev) / 57630 = Y := ⟨_, rfl⟩
      have hm := md_small B (57630 + dev) Y (by omega) (by omega) (by omega) (by omega) hY
      have EY : Hid (ratD alt dev = Y) := Lib.hid (by unfold ratD; rw [EV.out, hY])
      clear hY
      have hw0 : IntKind.i64.wrap (j : Int) = (j : Int) := IntWalk.i64_in _ (by omega)
      have hw8 : IntKind.i64.wrap ((j : Int) + 1) = (j : Int) + 1 := IntWalk.i64_in _ (by omega)
      have hw1 : IntKind.i64.wrap ((j : Int) + 1 - 1) = (j : Int) := by rw [show (j : Int) + 1 - 1 = j by omega]; exact IntWalk.i64_in _ (by omega)
      have hw2 : ((j : Int) + 1).toNat = j + 1 := by omega
      have hw3 : (0 : Int) ≤ (j : Int) := by omega
      have hw4 : (j : Int) < 14 := by omega
      have hw5 : (0 : Int) ≤ (j : Int) + 1 := by omega
      have hw6 : (j : Int) + 1 < 14 := by omega
      go_region_held3 (fun W => W.cell? ⟨0, j * 2, none⟩ = some (.int .i64 f0) ∧ W.cell? ⟨0, j * 2 + 1, none⟩ = some (.int .i64 v0) ∧ W.cell? ⟨0, (j + 1) * 2, none⟩ = some (.int .i64 f1) ∧ W.cell? ⟨0, (j + 1) * 2 + 1, none⟩ = some (.int .i64 v1)) (go_keep) (first | (go_at_call 52; (with_reducible refine (bw _).mono ?_); rintro e w' ⟨rfl, hk⟩; have g0 := cell_on hk H0; have g1 := cell_on hk H1; have g2 := cell_on hk H2; have g3 := cell_on hk H3) | (go_at_call 51; (with_reducible refine (hm _).mono ?_); rintro e w'' ⟨rfl, hd⟩; obtain ⟨gn, rfl⟩ := hd))
      all_goals go_wp2_with fail
      all_goals (go_ret2; exact ⟨by rw [EY.out]; rfl, (by repeat (first | with_reducible exact Kept.refl _ | with_reducible assumption | with_reducible refine Kept.setCell ?_ (by first | (simp; done) | (simp; omega) | omega) _ | with_reducible refine Kept.alloc ?_ _ | with_reducible refine Kept.drewN ?_ _ | with_reducible refine Kept.drew ?_ | with_reducible refine Kept.trans ?_ (by with_reducible assumption) | with_reducible refine Kept.dr ?_ (by with_reducible assumption)))⟩)
def snd (alt dev : Int) : Int := isq (388734 * (tmp alt + dev) / 100)
theorem sound_alt (alt dev : Int) (h : alt < -200000 ∨ 6000000 < alt) (w : World) : Calls Tryd.prog 34 #[.int .i64 alt, .int .i64 dev] w fun en w' => en = .returned (.tuple #[.int .i64 0, .int .i64 2]) ∧ w = w' := by
  go_enter Tryd.func34, Tryd.ntmps34
  go_wp2_with (first | (go_at_call 55; refine (temperature_alt alt dev h _).mono ?_; rintro e w' ⟨rfl, rfl⟩))
  all_goals (go_ret2; exact ⟨rfl, rfl⟩)
theorem sound_dev (alt dev : Int) (h0 : -200000 ≤ alt) (h1 : alt ≤ 6000000) (h : dev < -4000 ∨ 4000 < dev) (w : World) : Calls Tryd.prog 34 #[.int .i64 alt, .int .i64 dev] w fun en w' => en = .returned (.tuple #[.int .i64 0, .int .i64 1]) ∧ w = w' := by
  go_enter Tryd.func34, Tryd.ntmps34
  go_wp2_with (first | (go_at_call 55; refine (temperature_dev alt dev h0 h1 h _).mono ?_; rintro e w' ⟨rfl, rfl⟩))
  all_goals (go_ret2; exact ⟨rfl, rfl⟩)
theorem sound_ok (alt dev : Int) (h0 : -200000 ≤ alt) (h1 : alt ≤ 6000000) (d0 : -4000 ≤ dev) (d1 : dev ≤ 4000) (w : World) (ht : Hid (Tab w)) : Calls Tryd.prog 34 #[.int .i64 alt, .int .i64 dev] w fun en w' => en = .returned (.tuple #[.int .i64 (snd alt dev), .int .i64 0]) ∧ Kept w w' := by
  have hb := tmp_bd alt h0 h1
  have ct := temperature_ok alt dev h0 h1 d0 d1 w ht
  have E : Hid (snd alt dev = isq (388734 * (tmp alt + dev) / 100)) := Lib.hid rfl
  generalize tmp alt = T at ct E hb
  go_enter Tryd.func34, Tryd.ntmps34
  go_wp2_with fail
  refine ct.mono ?_
  rintro e w1 ⟨rfl, hk⟩
  go_wp2_with fail
  refine (sqrt_w (388734 * (T + dev) / 100) (by omega) (by omega) _).mono ?_
  rintro e w' ⟨rfl, rfl⟩
  go_wp2_with fail
  go_ret2
  exact ⟨by rw [E.out]; rfl, hk⟩
/-- the least altitude with at most that pressure -/
def LevOf (p a : Int) : Prop := -200000 ≤ a ∧ a ≤ 6000000 ∧ prs a ≤ p ∧ ∀ x, -200000 ≤ x → x < a → p < prs x
def LevIs (p : Int) (w : World) (e : Ending) (w' : World) : Prop := ∃ a, LevOf p a ∧ e = .returned (.tuple #[.int .i64 a, .int .i64 0]) ∧ Kept w w'
end Go.Proofs.YtfkgghjinkmpiaaDoor
