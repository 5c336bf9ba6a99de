/-
  Own contracts: layer 13: sets of winds.
-/
import Derived.Test.YtfpgdicacjkfoaaDoorWina
import Derived.Test.YtfpgdicacjkfoaaDoorWinr
import Derived.WalkKit
import Derived.ProofKit
import Derived.OpenShut
import Derived.WalkLawsBesides
import Derived.WalkSpells
import Derived.Lib.Hide
import Derived.Deep.DeepCutAuto
import Derived.Deep.CutBlock
import Derived.Deep.QuietTactic
import Derived.BigQuiet
import Derived.Handy
import Derived.StillTailTactics
import Derived.IntWalk
import Derived.LoopN
import Derived.Deep.RegionHeld3
namespace Go.Proofs.YtfpgdicacjkfoaaDoor
open Go.ChangeShapes Go.WideShapes Go.ChangeAt Go.RowKit
set_option linter.unusedVariables false
set_option linter.unusedSimpArgs false
def mni (x y : Int) : Int := min x y
def mxi (x y : Int) : Int := max x y
theorem run_mn2 {P : Program} {w : World} (ts : Array TypeId) (t : TypeId) (x y : Int) : (Builtin.min_ ts t #[.int .i64 x, .int .i64 y]).run P w = .ok (.int .i64 (mni x y)) w := by
  have h : ∀ a b : Int, (if b < a then b else a) = min a b := fun a b => by split <;> omega
  simp [Builtin.min_, Builtin.min2, mni, h]
theorem run_mx2 {P : Program} {w : World} (ts : Array TypeId) (t : TypeId) (x y : Int) : (Builtin.max_ ts t #[.int .i64 x, .int .i64 y]).run P w = .ok (.int .i64 (mxi x y)) w := by
  have h : ∀ a b : Int, (if b > a then b else a) = max a b := fun a b => by split <;> omega
  simp [Builtin.max_, Builtin.max2, mxi, h]
def spL (v r : Int) : Int := mxi (v - r) (-400)
def spH (v r : Int) : Int := mni (v + r) 400
set_option maxHeartbeats 2000000 in
set_option maxRecDepth 100000 in
theorem wside_w (l h : Int) (w : World) : Calls Tryd.prog 40 #[.agg #[.int .i64 l, .int .i64 h]] w fun e w' => e = .returned (.bool (sdB l h)) ∧ Kept w w' := by
  have H1 := fun W => wsmall_w l W
  have H2 := fun W => wsmall_w h W
  by_cases c : l ≤ h
  · unfold sdB
    rw [decide_eq_true c]
    cases hx : wsm l with
    | false =>
      rw [hx] at H1
      go_enter Tryd.func40, Tryd.ntmps40
      go_wp2_with (first | (go_at_call 42; with_reducible refine (H1 _).mono ?_; rintro e w' ⟨rfl, rfl⟩))
      all_goals first | (go_ret; exact ⟨rfl, (by repeat (first | with_reducible exact Kept.refl _ | with_reducible assumption | with_reducible refine Kept.setCell ?_ (by first | (simp; done) | (simp; omega) | omega) _ | with_reducible refine Kept.alloc ?_ _ | with_reducible refine Kept.drewN ?_ _ | with_reducible refine Kept.drew ?_ | with_reducible refine Kept.trans ?_ (by with_reducible assumption) | with_reducible refine Kept.dr ?_ (by with_reducible assumption)))⟩) | (exfalso; omega)
    | true =>
      rw [hx] at H1
      cases hy : wsm h with
      | false =>
        rw [hy] at H2
        go_enter Tryd.func40, Tryd.ntmps40
        go_wp2_with (first | (go_at_call 42; with_reducible refine (H1 _).mono ?_; rintro e w' ⟨rfl, rfl⟩) | (go_at_call 42; with_reducible refine (H2 _).mono ?_; rintro e w' ⟨rfl, rfl⟩))
        all_goals first | (go_ret; exact ⟨rfl, (by repeat (first | with_reducible exact Kept.refl _ | with_reducible assumption | with_reducible refine Kept.setCell ?_ (by first | (simp; done) | (simp; omega) | omega) _ | with_reducible refine Kept.alloc ?_ _ | with_reducible refine Kept.drewN ?_ _ | with_reducible refine Kept.drew ?_ | with_reducible refine Kept.trans ?_ (by with_reducible assumption) | with_reducible refine Kept.dr ?_ (by with_reducible assumption)))⟩) | (exfalso; omega)
      | true =>
        rw [hy] at H2
        go_enter Tryd.func40, Tryd.ntmps40
        go_wp2_with (first | (go_at_call 42; with_reducible refine (H1 _).mono ?_; rintro e w' ⟨rfl, rfl⟩) | (go_at_call 42; with_reducible refine (H2 _).mono ?_; rintro e w' ⟨rfl, rfl⟩))
        all_goals first | (go_ret; exact ⟨rfl, (by repeat (first | with_reducible exact Kept.refl _ | with_reducible assumption | with_reducible refine Kept.setCell ?_ (by first | (simp; done) | (simp; omega) | omega) _ | with_reducible refine Kept.alloc ?_ _ | with_reducible refine Kept.drewN ?_ _ | with_reducible refine Kept.drew ?_ | with_reducible refine Kept.trans ?_ (by with_reducible assumption) | with_reducible refine Kept.dr ?_ (by with_reducible assumption)))⟩) | (exfalso; omega)
  · unfold sdB
    rw [decide_eq_false c]
    have c' : h < l := by omega
    clear c
    go_enter Tryd.func40, Tryd.ntmps40
    go_wp2_with fail
    all_goals first | (go_ret; exact ⟨rfl, (by repeat (first | with_reducible exact Kept.refl _ | with_reducible assumption | with_reducible refine Kept.setCell ?_ (by first | (simp; done) | (simp; omega) | omega) _ | with_reducible refine Kept.alloc ?_ _ | with_reducible refine Kept.drewN ?_ _ | with_reducible refine Kept.drew ?_ | with_reducible refine Kept.trans ?_ (by with_reducible assumption) | with_reducible refine Kept.dr ?_ (by with_reducible assumption)))⟩) | (exfalso; omega)
set_option maxHeartbeats 2000000 in
set_option maxRecDepth 100000 in
theorem wbox_w (el eh nl nh : Int) (w : World) : Calls Tryd.prog 20 #[.agg #[.int .i64 el, .int .i64 eh, .int .i64 nl, .int .i64 nh]] w fun e w' => e = .returned (.bool (bxB el eh nl nh)) ∧ Kept w w' := by
  have H1 := fun W => wside_w el eh W
  have H2 := fun W => wside_w nl nh W
  unfold bxB
  cases hx : sdB el eh with
  | false =>
    rw [hx] at H1
    go_enter Tryd.func20, Tryd.ntmps20
    go_wp2_with fail
    with_reducible refine (H1 _).mono ?_
    rintro e w1 ⟨rfl, hk1⟩
    refine kuse (b := w.heap.size) hk1 (by first | (simp; done) | (simp; omega) | omega) ?_
    intro ha hb
    have hz1_0 : w.heap.size < w1.heap.size := by have := hk1.size; (try simp at this); omega
    have hn1_0 : ¬ w.heap.size = w1.heap.size := by omega
    have hm1_0 : ¬ w1.heap.size = w.heap.size := by omega
    have hf1_0_0 : w1.cell? ⟨w.heap.size, 0, none⟩ = some (.int .i64 el) := by first | (rw [ha]; with_reducible assumption) | (simp (maxDischargeDepth := 7) [go_sem, ha]; done) | (rw [ha]; assumption) | (simp (maxDischargeDepth := 7) [go_sem, ha, *]; done)
    have hf1_0_1 : w1.cell? ⟨w.heap.size, 1, none⟩ = some (.int .i64 eh) := by first | (rw [ha]; with_reducible assumption) | (simp (maxDischargeDepth := 7) [go_sem, ha]; done) | (rw [ha]; assumption) | (simp (maxDischargeDepth := 7) [go_sem, ha, *]; done)
    have hf1_0_2 : w1.cell? ⟨w.heap.size, 2, none⟩ = some (.int .i64 nl) := by first | (rw [ha]; with_reducible assumption) | (simp (maxDischargeDepth := 7) [go_sem, ha]; done) | (rw [ha]; assumption) | (simp (maxDischargeDepth := 7) [go_sem, ha, *]; done)
    have hf1_0_3 : w1.cell? ⟨w.heap.size, 3, none⟩ = some (.int .i64 nh) := by first | (rw [ha]; with_reducible assumption) | (simp (maxDischargeDepth := 7) [go_sem, ha]; done) | (rw [ha]; assumption) | (simp (maxDischargeDepth := 7) [go_sem, ha, *]; done)
    try have hg1_0 : ∀ o, w1.frozen? ⟨w.heap.size, o, none⟩ = false := by intro o; first | (simp (maxDischargeDepth := 7) [go_sem, hb]; done) | (rw [hb]; simp (maxDischargeDepth := 7) [go_sem, *]; done)
    clear ha hb
    go_wp2_with fail
    all_goals go_ret
    all_goals exact ⟨rfl, (by repeat (first | with_reducible exact Kept.refl _ | with_reducible assumption | with_reducible refine Kept.setCell ?_ (by first | (simp; done) | (simp; omega) | omega) _ | with_reducible refine Kept.alloc ?_ _ | with_reducible refine Kept.drewN ?_ _ | with_reducible refine Kept.drew ?_ | with_reducible refine Kept.trans ?_ (by with_reducible assumption) | with_reducible refine Kept.dr ?_ (by with_reducible assumption)))⟩
  | true =>
    rw [hx] at H1
    cases hy : sdB nl nh with
    | false =>
      rw [hy] at H2
      go_enter Tryd.func20, Tryd.ntmps20
      go_wp2_with fail
      with_reducible refine (H1 _).mono ?_
      rintro e w1 ⟨rfl, hk1⟩
      refine kuse (b := w.heap.size) hk1 (by first | (simp; done) | (simp; omega) | omega) ?_
      intro ha hb
      have hz1_0 : w.heap.size < w1.heap.size := by have := hk1.size; (try simp at this); omega
      have hn1_0 : ¬ w.heap.size = w1.heap.size := by omega
      have hm1_0 : ¬ w1.heap.size = w.heap.size := by omega
      have hf1_0_0 : w1.cell? ⟨w.heap.size, 0, none⟩ = some (.int .i64 el) := by first | (rw [ha]; with_reducible assumption) | (simp (maxDischargeDepth := 7) [go_sem, ha]; done) | (rw [ha]; assumption) | (simp (maxDischargeDepth := 7) [go_sem, ha, *]; done)
      have hf1_0_1 : w1.cell? ⟨w.heap.size, 1, none⟩ = some (.int .i64 eh) := by first | (rw [ha]; with_reducible assumption) | (simp (maxDischargeDepth := 7) [go_sem, ha]; done) | (rw [ha]; assumption) | (simp (maxDischargeDepth := 7) [go_sem, ha, *]; done)
      have hf1_0_2 : w1.cell? ⟨w.heap.size, 2, none⟩ = some (.int .i64 nl) := by first | (rw [ha]; with_reducible assumption) | (simp (maxDischargeDepth := 7) [go_sem, ha]; done) | (rw [ha]; assumption) | (simp (maxDischargeDepth := 7) [go_sem, ha, *]; done)
      have hf1_0_3 : w1.cell? ⟨w.heap.size, 3, none⟩ = some (.int .i64 nh) := by first | (rw [ha]; with_reducible assumption) | (simp (maxDischargeDepth := 7) [go_sem, ha]; done) | (rw [ha]; assumption) | (simp (maxDischargeDepth := 7) [go_sem, ha, *]; done)
      try have hg1_0 : ∀ o, w1.frozen? ⟨w.heap.size, o, none⟩ = false := by intro o; first | (simp (maxDischargeDepth := 7) [go_sem, hb]; done) | (rw [hb]; simp (maxDischargeDepth := 7) [go_sem, *]; done)
      clear ha hb
      go_wp2_with fail
      with_reducible refine (H2 _).mono ?_
      rintro e w2 ⟨rfl, hk2⟩
      refine kuse (b := w.heap.size) hk2 (by first | (simp; done) | (simp; omega) | omega) ?_
      intro ha hb
      have hz2_0 : w.heap.size < w2.heap.size := by have := hk2.size; (try simp at this); omega
      have hn2_0 : ¬ w.heap.size = w2.heap.size := by omega
      have hm2_0 : ¬ w2.heap.size = w.heap.size := by omega
      have hf2_0_0 : w2.cell? ⟨w.heap.size, 0, none⟩ = some (.int .i64 el) := by first | (rw [ha]; with_reducible assumption) | (simp (maxDischargeDepth := 7) [go_sem, ha]; done) | (rw [ha]; assumption) | (simp (maxDischargeDepth := 7) [go_sem, ha, *]; done)
      have hf2_0_1 : w2.cell? ⟨w.heap.size, 1, none⟩ = some (.int .i64 eh) := by first | (rw [ha]; with_reducible assumption) | (simp (maxDischargeDepth := 7) [go_sem, ha]; done) | (rw [ha]; assumption) | (simp (maxDischargeDepth := 7) [go_sem, ha, *]; done)
      have hf2_0_2 : w2.cell? ⟨w.heap.size, 2, none⟩ = some (.int .i64 nl) := by first | (rw [ha]; with_reducible assumption) | (simp (maxDischargeDepth := 7) [go_sem, ha]; done) | (rw [ha]; assumption) | (simp (maxDischargeDepth := 7) [go_sem, ha, *]; done)
      have hf2_0_3 : w2.cell? ⟨w.heap.size, 3, none⟩ = some (.int .i64 nh) := by first | (rw [ha]; with_reducible assumption) | (simp (maxDischargeDepth := 7) [go_sem, ha]; done) | (rw [ha]; assumption) | (simp (maxDischargeDepth := 7) [go_sem, ha, *]; done)
      try have hg2_0 : ∀ o, w2.frozen? ⟨w.heap.size, o, none⟩ = false := by intro o; first | (simp (maxDischargeDepth := 7) [go_sem, hb]; done) | (rw [hb]; simp (maxDischargeDepth := 7) [go_sem, *]; done)
      clear ha hb
      try clear hf1_0_0
      try clear hf1_0_1
      try clear hf1_0_2
      try clear hf1_0_3
      try clear hg1_0
      go_wp2_with fail
      all_goals go_ret
      all_goals exact ⟨rfl, (by repeat (first | with_reducible exact Kept.refl _ | with_reducible assumption | with_reducible refine Kept.setCell ?_ (by first | (simp; done) | (simp; omega) | omega) _ | with_reducible refine Kept.alloc ?_ _ | with_reducible refine Kept.drewN ?_ _ | with_reducible refine Kept.drew ?_ | with_reducible refine Kept.trans ?_ (by with_reducible assumption) | with_reducible refine Kept.dr ?_ (by with_reducible assumption)))⟩
    | true =>
      rw [hy] at H2
      go_enter Tryd.func20, Tryd.ntmps20
      go_wp2_with fail
      with_reducible refine (H1 _).mono ?_
      rintro e w1 ⟨rfl, hk1⟩
      refine kuse (b := w.heap.size) hk1 (by first | (simp; done) | (simp; omega) | omega) ?_
      intro ha hb
      have hz1_0 : w.heap.size < w1.heap.size := by have := hk1.size; (try simp at this); omega
      have hn1_0 : ¬ w.heap.size = w1.heap.size := by omega
      have hm1_0 : ¬ w1.heap.size = w.heap.size := by omega
      have hf1_0_0 : w1.cell? ⟨w.heap.size, 0, none⟩ = some (.int .i64 el) := by first | (rw [ha]; with_reducible assumption) | (simp (maxDischargeDepth := 7) [go_sem, ha]; done) | (rw [ha]; assumption) | (simp (maxDischargeDepth := 7) [go_sem, ha, *]; done)
      have hf1_0_1 : w1.cell? ⟨w.heap.size, 1, none⟩ = some (.int .i64 eh) := by first | (rw [ha]; with_reducible assumption) | (simp (maxDischargeDepth := 7) [go_sem, ha]; done) | (rw [ha]; assumption) | (simp (maxDischargeDepth := 7) [go_sem, ha, *]; done)
      have hf1_0_2 : w1.cell? ⟨w.heap.size, 2, none⟩ = some (.int .i64 nl) := by first | (rw [ha]; with_reducible assumption) | (simp (maxDischargeDepth := 7) [go_sem, ha]; done) | (rw [ha]; assumption) | (simp (maxDischargeDepth := 7) [go_sem, ha, *]; done)
      have hf1_0_3 : w1.cell? ⟨w.heap.size, 3, none⟩ = some (.int .i64 nh) := by first | (rw [ha]; with_reducible assumption) | (simp (maxDischargeDepth := 7) [go_sem, ha]; done) | (rw [ha]; assumption) | (simp (maxDischargeDepth := 7) [go_sem, ha, *]; done)
      try have hg1_0 : ∀ o, w1.frozen? ⟨w.heap.size, o, none⟩ = false := by intro o; first | (simp (maxDischargeDepth := 7) [go_sem, hb]; done) | (rw [hb]; simp (maxDischargeDepth := 7) [go_sem, *]; done)
      clear ha hb
      go_wp2_with fail
      with_reducible refine (H2 _).mono ?_
      rintro e w2 ⟨rfl, hk2⟩
      refine kuse (b := w.heap.size) hk2 (by first | (simp; done) | (simp; omega) | omega) ?_
      intro ha hb
      have hz2_0 : w.heap.size < w2.heap.size := by have := hk2.size; (try simp at this); omega
      have hn2_0 : ¬ w.heap.size = w2.heap.size := by omega
      have hm2_0 : ¬ w2.heap.size = w.heap.size := by omega
      have hf2_0_0 : w2.cell? ⟨w.heap.size, 0, none⟩ = some (.int .i64 el) := by first | (rw [ha]; with_reducible assumption) | (simp (maxDischargeDepth := 7) [go_sem, ha]; done) | (rw [ha]; assumption) | (simp (maxDischargeDepth := 7) [go_sem, ha, *]; done)
      have hf2_0_1 : w2.cell? ⟨w.heap.size, 1, none⟩ = some (.int .i64 eh) := by first | (rw [ha]; with_reducible assumption) | (simp (maxDischargeDepth := 7) [go_sem, ha]; done) | (rw [ha]; assumption) | (simp (maxDischargeDepth := 7) [go_sem, ha, *]; done)
      have hf2_0_2 : w2.cell? ⟨w.heap.size, 2, none⟩ = some (.int .i64 nl) := by first | (rw [ha]; with_reducible assumption) | (simp (maxDischargeDepth := 7) [go_sem, ha]; done) | (rw [ha]; assumption) | (simp (maxDischargeDepth := 7) [go_sem, ha, *]; done)
      have hf2_0_3 : w2.cell? ⟨w.heap.size, 3, none⟩ = some (.int .i64 nh) := by first | (rw [ha]; with_reducible assumption) | (simp (maxDischargeDepth := 7) [go_sem, ha]; done) | (rw [ha]; assumption) | (simp (maxDischargeDepth := 7) [go_sem, ha, *]; done)
      try have hg2_0 : ∀ o, w2.frozen? ⟨w.heap.size, o, none⟩ = false := by intro o; first | (simp (maxDischargeDepth := 7) [go_sem, hb]; done) | (rw [hb]; simp (maxDischargeDepth := 7) [go_sem, *]; done)
      clear ha hb
      try clear hf1_0_0
      try clear hf1_0_1
      try clear hf1_0_2
      try clear hf1_0_3
      try clear hg1_0
      go_wp2_with fail
      all_goals go_ret
      all_goals exact ⟨rfl, (by repeat (first | with_reducible exact Kept.refl _ | with_reducible assumption | with_reducible refine Kept.setCell ?_ (by first | (simp; done) | (simp; omega) | omega) _ | with_reducible refine Kept.alloc ?_ _ | with_reducible refine Kept.drewN ?_ _ | with_reducible refine Kept.drew ?_ | with_reducible refine Kept.trans ?_ (by with_reducible assumption) | with_reducible refine Kept.dr ?_ (by with_reducible assumption)))⟩
set_option maxHeartbeats 2000000 in
set_option maxRecDepth 100000 in
theorem within_w (el eh nl nh x y : Int) (w : World) : Calls Tryd.prog 21 #[.agg #[.int .i64 el, .int .i64 eh, .int .i64 nl, .int .i64 nh], .agg #[.int .i64 x, .int .i64 y]] w fun e w' => e = .returned (.bool (wnB el eh nl nh x y)) ∧ Kept w w' := by
  have H1 := fun W => wbox_w el eh nl nh W
  have rb : ∀ a b : Bool, (a = true ↔ b = true) → Ending.returned (.bool a) = .returned (.bool b) := fun a b h => by rw [Bool.eq_iff_iff.2 h]
  unfold wnB
  cases hx : bxB el eh nl nh with
  | false =>
    rw [hx] at H1
    rw [Bool.false_and, Bool.false_and, Bool.false_and, Bool.false_and]
    go_enter Tryd.func21, Tryd.ntmps21
    go_wp2_with fail
    with_reducible refine (H1 _).mono ?_
    rintro e w1 ⟨rfl, hk1⟩
    refine kuse (b := w.heap.size) hk1 (by first | (simp; done) | (simp; omega) | omega) ?_
    intro ha hb
    have hz1_0 : w.heap.size < w1.heap.size := by have := hk1.size; (try simp at this); omega
    have hn1_0 : ¬ w.heap.size = w1.heap.size := by omega
    have hm1_0 : ¬ w1.heap.size = w.heap.size := by omega
    have hf1_0_0 : w1.cell? ⟨w.heap.size, 0, none⟩ = some (.int .i64 el) := by first | (rw [ha]; with_reducible assumption) | (simp (maxDischargeDepth := 7) [go_sem, ha]; done) | (rw [ha]; assumption) | (simp (maxDischargeDepth := 7) [go_sem, ha, *]; done)
    have hf1_0_1 : w1.cell? ⟨w.heap.size, 1, none⟩ = some (.int .i64 eh) := by first | (rw [ha]; with_reducible assumption) | (simp (maxDischargeDepth := 7) [go_sem, ha]; done) | (rw [ha]; assumption) | (simp (maxDischargeDepth := 7) [go_sem, ha, *]; done)
    have hf1_0_2 : w1.cell? ⟨w.heap.size, 2, none⟩ = some (.int .i64 nl) := by first | (rw [ha]; with_reducible assumption) | (simp (maxDischargeDepth := 7) [go_sem, ha]; done) | (rw [ha]; assumption) | (simp (maxDischargeDepth := 7) [go_sem, ha, *]; done)
    have hf1_0_3 : w1.cell? ⟨w.heap.size, 3, none⟩ = some (.int .i64 nh) := by first | (rw [ha]; with_reducible assumption) | (simp (maxDischargeDepth := 7) [go_sem, ha]; done) | (rw [ha]; assumption) | (simp (maxDischargeDepth := 7) [go_sem, ha, *]; done)
    try have hg1_0 : ∀ o, w1.frozen? ⟨w.heap.size, o, none⟩ = false := by intro o; first | (simp (maxDischargeDepth := 7) [go_sem, hb]; done) | (rw [hb]; simp (maxDischargeDepth := 7) [go_sem, *]; done)
    clear ha hb
    refine kuse (b := w.heap.size + 1) hk1 (by first | (simp; done) | (simp; omega) | omega) ?_
    intro ha hb
    have hz1_1 : w.heap.size + 1 < w1.heap.size := by have := hk1.size; (try simp at this); omega
    have hn1_1 : ¬ w.heap.size + 1 = w1.heap.size := by omega
    have hm1_1 : ¬ w1.heap.size = w.heap.size + 1 := by omega
    have hf1_1_0 : w1.cell? ⟨w.heap.size + 1, 0, none⟩ = some (.int .i64 x) := by first | (rw [ha]; with_reducible assumption) | (simp (maxDischargeDepth := 7) [go_sem, ha]; done) | (rw [ha]; assumption) | (simp (maxDischargeDepth := 7) [go_sem, ha, *]; done)
    have hf1_1_1 : w1.cell? ⟨w.heap.size + 1, 1, none⟩ = some (.int .i64 y) := by first | (rw [ha]; with_reducible assumption) | (simp (maxDischargeDepth := 7) [go_sem, ha]; done) | (rw [ha]; assumption) | (simp (maxDischargeDepth := 7) [go_sem, ha, *]; done)
    try have hg1_1 : ∀ o, w1.frozen? ⟨w.heap.size + 1, o, none⟩ = false := by intro o; first | (simp (maxDischargeDepth := 7) [go_sem, hb]; done) | (rw [hb]; simp (maxDischargeDepth := 7) [go_sem, *]; done)
    clear ha hb
    go_wp2_with fail
    all_goals first | (go_ret; refine ⟨?_, (by repeat (first | with_reducible exact Kept.refl _ | with_reducible assumption | with_reducible refine Kept.setCell ?_ (by first | (simp; done) | (simp; omega) | omega) _ | with_reducible refine Kept.alloc ?_ _ | with_reducible refine Kept.drewN ?_ _ | with_reducible refine Kept.drew ?_ | with_reducible refine Kept.trans ?_ (by with_reducible assumption) | with_reducible refine Kept.dr ?_ (by with_reducible assumption)))⟩; refine rb _ _ ?_; simp; omega) | (go_ret; exact ⟨rfl, (by repeat (first | with_reducible exact Kept.refl _ | with_reducible assumption | with_reducible refine Kept.setCell ?_ (by first | (simp; done) | (simp; omega) | omega) _ | with_reducible refine Kept.alloc ?_ _ | with_reducible refine Kept.drewN ?_ _ | with_reducible refine Kept.drew ?_ | with_reducible refine Kept.trans ?_ (by with_reducible assumption) | with_reducible refine Kept.dr ?_ (by with_reducible assumption)))⟩) | (exfalso; omega)
  | true =>
    rw [hx] at H1
    rw [Bool.true_and]
    go_enter Tryd.func21, Tryd.ntmps21
    go_wp2_with fail
    with_reducible refine (H1 _).mono ?_
    rintro e w1 ⟨rfl, hk1⟩
    refine kuse (b := w.heap.size) hk1 (by first | (simp; done) | (simp; omega) | omega) ?_
    intro ha hb
    have hz1_0 : w.heap.size < w1.heap.size := by have := hk1.size; (try simp at this); omega
    have hn1_0 : ¬ w.heap.size = w1.heap.size := by omega
    have hm1_0 : ¬ w1.heap.size = w.heap.size := by omega
    have hf1_0_0 : w1.cell? ⟨w.heap.size, 0, none⟩ = some (.int .i64 el) := by first | (rw [ha]; with_reducible assumption) | (simp (maxDischargeDepth := 7) [go_sem, ha]; done) | (rw [ha]; assumption) | (simp (maxDischargeDepth := 7) [go_sem, ha, *]; done)
    have hf1_0_1 : w1.cell? ⟨w.heap.size, 1, none⟩ = some (.int .i64 eh) := by first | (rw [ha]; with_reducible assumption) | (simp (maxDischargeDepth := 7) [go_sem, ha]; done) | (rw [ha]; assumption) | (simp (maxDischargeDepth := 7) [go_sem, ha, *]; done)
    have hf1_0_2 : w1.cell? ⟨w.heap.size, 2, none⟩ = some (.int .i64 nl) := by first | (rw [ha]; with_reducible assumption) | (simp (maxDischargeDepth := 7) [go_sem, ha]; done) | (rw [ha]; assumption) | (simp (maxDischargeDepth := 7) [go_sem, ha, *]; done)
    have hf1_0_3 : w1.cell? ⟨w.heap.size, 3, none⟩ = some (.int .i64 nh) := by first | (rw [ha]; with_reducible assumption) | (simp (maxDischargeDepth := 7) [go_sem, ha]; done) | (rw [ha]; assumption) | (simp (maxDischargeDepth := 7) [go_sem, ha, *]; done)
    try have hg1_0 : ∀ o, w1.frozen? ⟨w.heap.size, o, none⟩ = false := by intro o; first | (simp (maxDischargeDepth := 7) [go_sem, hb]; done) | (rw [hb]; simp (maxDischargeDepth := 7) [go_sem, *]; done)
    clear ha hb
    refine kuse (b := w.heap.size + 1) hk1 (by first | (simp; done) | (simp; omega) | omega) ?_
    intro ha hb
    have hz1_1 : w.heap.size + 1 < w1.heap.size := by have := hk1.size; (try simp at this); omega
    have hn1_1 : ¬ w.heap.size + 1 = w1.heap.size := by omega
    have hm1_1 : ¬ w1.heap.size = w.heap.size + 1 := by omega
    have hf1_1_0 : w1.cell? ⟨w.heap.size + 1, 0, none⟩ = some (.int .i64 x) := by first | (rw [ha]; with_reducible assumption) | (simp (maxDischargeDepth := 7) [go_sem, ha]; done) | (rw [ha]; assumption) | (simp (maxDischargeDepth := 7) [go_sem, ha, *]; done)
    have hf1_1_1 : w1.cell? ⟨w.heap.size + 1, 1, none⟩ = some (.int .i64 y) := by first | (rw [ha]; with_reducible assumption) | (simp (maxDischargeDepth := 7) [go_sem, ha]; done) | (rw [ha]; assumption) | (simp (maxDischargeDepth := 7) [go_sem, ha, *]; done)
    try have hg1_1 : ∀ o, w1.frozen? ⟨w.heap.size + 1, o, none⟩ = false := by intro o; first | (simp (maxDischargeDepth := 7) [go_sem, hb]; done) | (rw [hb]; simp (maxDischargeDepth := 7) [go_sem, *]; done)
    clear ha hb
    go_wp2_with fail
    all_goals first | (go_ret; refine ⟨?_, (by repeat (first | with_reducible exact Kept.refl _ | with_reducible assumption | with_reducible refine Kept.setCell ?_ (by first | (simp; done) | (simp; omega) | omega) _ | with_reducible refine Kept.alloc ?_ _ | with_reducible refine Kept.drewN ?_ _ | with_reducible refine Kept.drew ?_ | with_reducible refine Kept.trans ?_ (by with_reducible assumption) | with_reducible refine Kept.dr ?_ (by with_reducible assumption)))⟩; refine rb _ _ ?_; simp; omega) | (go_ret; exact ⟨rfl, (by repeat (first | with_reducible exact Kept.refl _ | with_reducible assumption | with_reducible refine Kept.setCell ?_ (by first | (simp; done) | (simp; omega) | omega) _ | with_reducible refine Kept.alloc ?_ _ | with_reducible refine Kept.drewN ?_ _ | with_reducible refine Kept.drew ?_ | with_reducible refine Kept.trans ?_ (by with_reducible assumption) | with_reducible refine Kept.dr ?_ (by with_reducible assumption)))⟩) | (exfalso; omega)
set_option maxHeartbeats 2000000 in
set_option maxRecDepth 100000 in
theorem spread_w (v r : Int) (v0 : -400 ≤ v) (v1 : v ≤ 400) (r0 : 0 ≤ r) (r1 : r ≤ 400) (w : World) : Calls Tryd.prog 39 #[.int .i64 v, .int .i64 r] w fun e w' => e = .returned (.agg #[.int .i64 (spL v r), .int .i64 (spH v r)]) ∧ Kept w w' := by
  have b1 := fun ts ty W => run_mx2 (P := Tryd.prog) (w := W) ts ty (v - r) (-400)
  have b2 := fun ts ty W => run_mn2 (P := Tryd.prog) (w := W) ts ty (v + r) 400
  obtain ⟨a, qa⟩ : ∃ a, mxi (v - r) (-400) = a := ⟨_, rfl⟩
  obtain ⟨b, qb⟩ : ∃ b, mni (v + r) 400 = b := ⟨_, rfl⟩
  rw [qa] at b1
  rw [qb] at b2
  rw [show spL v r = a from qa, show spH v r = b from qb]
  clear qa qb
  have w1 : IntKind.i64.wrap (v - r) = v - r := IntWalk.i64_in _ (by omega)
  have w2 : IntKind.i64.wrap (v + r) = v + r := IntWalk.i64_in _ (by omega)
  go_enter Tryd.func39, Tryd.ntmps39
  go_wp2
  all_goals exact bodyPost_ret (v := .agg #[.int .i64 a, .int .i64 b]) (by first | (simp [results, Tryd.results39, go_sem]; done) | (simp (maxDischargeDepth := 7) [results, Tryd.results39, go_sem, *]; done)) rfl ⟨rfl, (by repeat (first | with_reducible exact Kept.refl _ | with_reducible assumption | with_reducible refine Kept.setCell ?_ (by first | (simp; done) | (simp; omega) | omega) _ | with_reducible refine Kept.alloc ?_ _ | with_reducible refine Kept.drewN ?_ _ | with_reducible refine Kept.drew ?_ | with_reducible refine Kept.trans ?_ (by with_reducible assumption) | with_reducible refine Kept.dr ?_ (by with_reducible assumption)))⟩
set_option maxHeartbeats 2000000 in
set_option maxRecDepth 100000 in
theorem around_arg (x y r : Int) (r_0 : -9223372036854775808 ≤ r) (r_1 : r ≤ 9223372036854775807) (h : wok x y = false) (w : World) : Calls Tryd.prog 18 #[.agg #[.int .i64 x, .int .i64 y], .int .i64 r] w fun e w' => e = .returned (.tuple #[.agg #[.int .i64 0, .int .i64 0, .int .i64 0, .int .i64 0], .int .i64 1]) ∧ Kept w w' := by
  have HV := fun W => wvalid_w x y W
  rw [h] at HV
  go_enter Tryd.func18, Tryd.ntmps18
  go_wp2_with fail
  with_reducible refine (HV _).mono ?_
  rintro e w1 ⟨rfl, hk1⟩
  refine kuse (b := w.heap.size) hk1 (by first | (simp; done) | (simp; omega) | omega) ?_
  intro ha hb
  have hz1_0 : w.heap.size < w1.heap.size := by have := hk1.size; (try simp at this); omega
  have hn1_0 : ¬ w.heap.size = w1.heap.size := by omega
  have hm1_0 : ¬ w1.heap.size = w.heap.size := by omega
  have hf1_0_0 : w1.cell? ⟨w.heap.size, 0, none⟩ = some (.int .i64 x) := by first | (rw [ha]; with_reducible assumption) | (simp (maxDischargeDepth := 7) [go_sem, ha]; done) | (rw [ha]; assumption) | (simp (maxDischargeDepth := 7) [go_sem, ha, *]; done)
  have hf1_0_1 : w1.cell? ⟨w.heap.size, 1, none⟩ = some (.int .i64 y) := by first | (rw [ha]; with_reducible assumption) | (simp (maxDischargeDepth := 7) [go_sem, ha]; done) | (rw [ha]; assumption) | (simp (maxDischargeDepth := 7) [go_sem, ha, *]; done)
  try have hg1_0 : ∀ o, w1.frozen? ⟨w.heap.size, o, none⟩ = false := by intro o; first | (simp (maxDischargeDepth := 7) [go_sem, hb]; done) | (rw [hb]; simp (maxDischargeDepth := 7) [go_sem, *]; done)
  clear ha hb
  refine kuse (b := w.heap.size + 1) hk1 (by first | (simp; done) | (simp; omega) | omega) ?_
  intro ha hb
  have hz1_1 : w.heap.size + 1 < w1.heap.size := by have := hk1.size; (try simp at this); omega
  have hn1_1 : ¬ w.heap.size + 1 = w1.heap.size := by omega
  have hm1_1 : ¬ w1.heap.size = w.heap.size + 1 := by omega
  have hf1_1_0 : w1.cell? ⟨w.heap.size + 1, 0, none⟩ = some (.int .i64 0) := by first | (rw [ha]; with_reducible assumption) | (simp (maxDischargeDepth := 7) [go_sem, ha]; done) | (rw [ha]; assumption) | (simp (maxDischargeDepth := 7) [go_sem, ha, *]; done)
  have hf1_1_1 : w1.cell? ⟨w.heap.size + 1, 1, none⟩ = some (.int .i64 0) := by first | (rw [ha]; with_reducible assumption) | (simp (maxDischargeDepth := 7) [go_sem, ha]; done) | (rw [ha]; assumption) | (simp (maxDischargeDepth := 7) [go_sem, ha, *]; done)
  have hf1_1_2 : w1.cell? ⟨w.heap.size + 1, 2, none⟩ = some (.int .i64 0) := by first | (rw [ha]; with_reducible assumption) | (simp (maxDischargeDepth := 7) [go_sem, ha]; done) | (rw [ha]; assumption) | (simp (maxDischargeDepth := 7) [go_sem, ha, *]; done)
  have hf1_1_3 : w1.cell? ⟨w.heap.size + 1, 3, none⟩ = some (.int .i64 0) := by first | (rw [ha]; with_reducible assumption) | (simp (maxDischargeDepth := 7) [go_sem, ha]; done) | (rw [ha]; assumption) | (simp (maxDischargeDepth := 7) [go_sem, ha, *]; done)
  try have hg1_1 : ∀ o, w1.frozen? ⟨w.heap.size + 1, o, none⟩ = false := by intro o; first | (simp (maxDischargeDepth := 7) [go_sem, hb]; done) | (rw [hb]; simp (maxDischargeDepth := 7) [go_sem, *]; done)
  clear ha hb
  go_wp2_with fail
  all_goals exact bodyPost_ret (v := .tuple #[.agg #[.int .i64 0, .int .i64 0, .int .i64 0, .int .i64 0], .int .i64 1]) (by first | (simp [results, Tryd.results18, go_sem]; done) | (simp (maxDischargeDepth := 7) [results, Tryd.results18, go_sem, *]; done)) rfl ⟨rfl, (by repeat (first | with_reducible exact Kept.refl _ | with_reducible assumption | with_reducible refine Kept.setCell ?_ (by first | (simp; done) | (simp; omega) | omega) _ | with_reducible refine Kept.alloc ?_ _ | with_reducible refine Kept.drewN ?_ _ | with_reducible refine Kept.drew ?_ | with_reducible refine Kept.trans ?_ (by with_reducible assumption) | with_reducible refine Kept.dr ?_ (by with_reducible assumption)))⟩
set_option maxHeartbeats 2000000 in
set_option maxRecDepth 100000 in
theorem around_err (x y r : Int) (r_0 : -9223372036854775808 ≤ r) (r_1 : r ≤ 9223372036854775807) (h0 : -400 ≤ x) (h1 : x ≤ 400) (h2 : -400 ≤ y) (h3 : y ≤ 400) (h : r < 0 ∨ 400 < r) (w : World) : Calls Tryd.prog 18 #[.agg #[.int .i64 x, .int .i64 y], .int .i64 r] w fun e w' => e = .returned (.tuple #[.agg #[.int .i64 0, .int .i64 0, .int .i64 0, .int .i64 0], .int .i64 1]) ∧ Kept w w' := by
  rcases h with h | h
  all_goals
    have HV := fun W => wvalid_w x y W
    rw [wok_is h0 h1 h2 h3] at HV
    go_enter Tryd.func18, Tryd.ntmps18
    go_wp2_with fail
    with_reducible refine (HV _).mono ?_
    rintro e w1 ⟨rfl, hk1⟩
    refine kuse (b := w.heap.size) hk1 (by first | (simp; done) | (simp; omega) | omega) ?_
    intro ha hb
    have hz1_0 : w.heap.size < w1.heap.size := by have := hk1.size; (try simp at this); omega
    have hn1_0 : ¬ w.heap.size = w1.heap.size := by omega
    have hm1_0 : ¬ w1.heap.size = w.heap.size := by omega
    have hf1_0_0 : w1.cell? ⟨w.heap.size, 0, none⟩ = some (.int .i64 x) := by first | (rw [ha]; with_reducible assumption) | (simp (maxDischargeDepth := 7) [go_sem, ha]; done) | (rw [ha]; assumption) | (simp (maxDischargeDepth := 7) [go_sem, ha, *]; done)
    have hf1_0_1 : w1.cell? ⟨w.heap.size, 1, none⟩ = some (.int .i64 y) := by first | (rw [ha]; with_reducible assumption) | (simp (maxDischargeDepth := 7) [go_sem, ha]; done) | (rw [ha]; assumption) | (simp (maxDischargeDepth := 7) [go_sem, ha, *]; done)
    try have hg1_0 : ∀ o, w1.frozen? ⟨w.heap.size, o, none⟩ = false := by intro o; first | (simp (maxDischargeDepth := 7) [go_sem, hb]; done) | (rw [hb]; simp (maxDischargeDepth := 7) [go_sem, *]; done)
    clear ha hb
    refine kuse (b := w.heap.size + 1) hk1 (by first | (simp; done) | (simp; omega) | omega) ?_
    intro ha hb
    have hz1_1 : w.heap.size + 1 < w1.heap.size := by have := hk1.size; (try simp at this); omega
    have hn1_1 : ¬ w.heap.size + 1 = w1.heap.size := by omega
    have hm1_1 : ¬ w1.heap.size = w.heap.size + 1 := by omega
    have hf1_1_0 : w1.cell? ⟨w.heap.size + 1, 0, none⟩ = some (.int .i64 0) := by first | (rw [ha]; with_reducible assumption) | (simp (maxDischargeDepth := 7) [go_sem, ha]; done) | (rw [ha]; assumption) | (simp (maxDischargeDepth := 7) [go_sem, ha, *]; done)
    have hf1_1_1 : w1.cell? ⟨w.heap.size + 1, 1, none⟩ = some (.int .i64 0) := by first | (rw [ha]; with_reducible assumption) | (simp (maxDischargeDepth := 7) [go_sem, ha]; done) | (rw [ha]; assumption) | (simp (maxDischargeDepth := 7) [go_sem, ha, *]; done)
    have hf1_1_2 : w1.cell? ⟨w.heap.size + 1, 2, none⟩ = some (.int .i64 0) := by first | (rw [ha]; with_reducible assumption) | (simp (maxDischargeDepth := 7) [go_sem, ha]; done) | (rw [ha]; assumption) | (simp (maxDischargeDepth := 7) [go_sem, ha, *]; done)
    have hf1_1_3 : w1.cell? ⟨w.heap.size + 1, 3, none⟩ = some (.int .i64 0) := by first | (rw [ha]; with_reducible assumption) | (simp (maxDischargeDepth := 7) [go_sem, ha]; done) | (rw [ha]; assumption) | (simp (maxDischargeDepth := 7) [go_sem, ha, *]; done)
    try have hg1_1 : ∀ o, w1.frozen? ⟨w.heap.size + 1, o, none⟩ = false := by intro o; first | (simp (maxDischargeDepth := 7) [go_sem, hb]; done) | (rw [hb]; simp (maxDischargeDepth := 7) [go_sem, *]; done)
    clear ha hb
    go_wp2_with fail
    all_goals exact bodyPost_ret (v := .tuple #[.agg #[.int .i64 0, .int .i64 0, .int .i64 0, .int .i64 0], .int .i64 1]) (by first | (simp [results, Tryd.results18, go_sem]; done) | (simp (maxDischargeDepth := 7) [results, Tryd.results18, go_sem, *]; done)) rfl ⟨rfl, (by repeat (first | with_reducible exact Kept.refl _ | with_reducible assumption | with_reducible refine Kept.setCell ?_ (by first | (simp; done) | (simp; omega) | omega) _ | with_reducible refine Kept.alloc ?_ _ | with_reducible refine Kept.drewN ?_ _ | with_reducible refine Kept.drew ?_ | with_reducible refine Kept.trans ?_ (by with_reducible assumption) | with_reducible refine Kept.dr ?_ (by with_reducible assumption)))⟩
set_option maxHeartbeats 2000000 in
set_option maxRecDepth 100000 in
theorem around_ok (x y r : Int) (h0 : -400 ≤ x) (h1 : x ≤ 400) (h2 : -400 ≤ y) (h3 : y ≤ 400) (r0 : 0 ≤ r) (r1 : r ≤ 400) (w : World) : Calls Tryd.prog 18 #[.agg #[.int .i64 x, .int .i64 y], .int .i64 r] w fun e w' => e = .returned (.tuple #[.agg #[.int .i64 (spL x r), .int .i64 (spH x r), .int .i64 (spL y r), .int .i64 (spH y r)], .int .i64 0]) ∧ Kept w w' := by
  have HV := fun W => wvalid_w x y W
  rw [wok_is h0 h1 h2 h3] at HV
  have S1 := fun W => spread_w x r h0 h1 r0 r1 W
  have S2 := fun W => spread_w y r h2 h3 r0 r1 W
  go_enter Tryd.func18, Tryd.ntmps18
  go_wp2_with fail
  with_reducible refine (HV _).mono ?_
  rintro e w1 ⟨rfl, hk1⟩
  refine kuse (b := w.heap.size) hk1 (by first | (simp; done) | (simp; omega) | omega) ?_
  intro ha hb
  have hz1_0 : w.heap.size < w1.heap.size := by have := hk1.size; (try simp at this); omega
  have hn1_0 : ¬ w.heap.size = w1.heap.size := by omega
  have hm1_0 : ¬ w1.heap.size = w.heap.size := by omega
  have hf1_0_0 : w1.cell? ⟨w.heap.size, 0, none⟩ = some (.int .i64 x) := by first | (rw [ha]; with_reducible assumption) | (simp (maxDischargeDepth := 7) [go_sem, ha]; done) | (rw [ha]; assumption) | (simp (maxDischargeDepth := 7) [go_sem, ha, *]; done)
  have hf1_0_1 : w1.cell? ⟨w.heap.size, 1, none⟩ = some (.int .i64 y) := by first | (rw [ha]; with_reducible assumption) | (simp (maxDischargeDepth := 7) [go_sem, ha]; done) | (rw [ha]; assumption) | (simp (maxDischargeDepth := 7) [go_sem, ha, *]; done)
  try have hg1_0 : ∀ o, w1.frozen? ⟨w.heap.size, o, none⟩ = false := by intro o; first | (simp (maxDischargeDepth := 7) [go_sem, hb]; done) | (rw [hb]; simp (maxDischargeDepth := 7) [go_sem, *]; done)
  clear ha hb
  refine kuse (b := w.heap.size + 1) hk1 (by first | (simp; done) | (simp; omega) | omega) ?_
  intro ha hb
  have hz1_1 : w.heap.size + 1 < w1.heap.size := by have := hk1.size; (try simp at this); omega
  have hn1_1 : ¬ w.heap.size + 1 = w1.heap.size := by omega
  have hm1_1 : ¬ w1.heap.size = w.heap.size + 1 := by omega
  have hf1_1_0 : w1.cell? ⟨w.heap.size + 1, 0, none⟩ = some (.int .i64 0) := by first | (rw [ha]; with_reducible assumption) | (simp (maxDischargeDepth := 7) [go_sem, ha]; done) | (rw [ha]; assumption) | (simp (maxDischargeDepth := 7) [go_sem, ha, *]; done)
  have hf1_1_1 : w1.cell? ⟨w.heap.size + 1, 1, none⟩ = some (.int .i64 0) := by first | (rw [ha]; with_reducible assumption) | (simp (maxDischargeDepth := 7) [go_sem, ha]; done) | (rw [ha]; assumption) | (simp (maxDischargeDepth := 7) [go_sem, ha, *]; done)
  have hf1_1_2 : w1.cell? ⟨w.heap.size + 1, 2, none⟩ = some (.int .i64 0) := by first | (rw [ha]; with_reducible assumption) | (simp (maxDischargeDepth := 7) [go_sem, ha]; done) | (rw [ha]; assumption) | (simp (maxDischargeDepth := 7) [go_sem, ha, *]; done)
  have hf1_1_3 : w1.cell? ⟨w.heap.size + 1, 3, none⟩ = some (.int .i64 0) := by first | (rw [ha]; with_reducible assumption) | (simp (maxDischargeDepth := 7) [go_sem, ha]; done) | (rw [ha]; assumption) | (simp (maxDischargeDepth := 7) [go_sem, ha, *]; done)
  try have hg1_1 : ∀ o, w1.frozen? ⟨w.heap.size + 1, o, none⟩ = false := by intro o; first | (simp (maxDischargeDepth := 7) [go_sem, hb]; done) | (rw [hb]; simp (maxDischargeDepth := 7) [go_sem, *]; done)
  clear ha hb
  go_wp2_with fail
  go_region_held3 (fun W => W.cell? ⟨w.heap.size, 0, none⟩ = some (.int .i64 x) ∧ W.cell? ⟨w.heap.size, 1, none⟩ = some (.int .i64 y)) (first | (go_keep; done) | (simp (maxDischargeDepth := 9) [*, World.cell?_alloc_some, World.cell?_setCell_far]; done) | (simp (maxDischargeDepth := 9) [go_sem, *]; done)) (first | (go_at_call 39; (first | with_reducible refine (S1 _).mono ?_); rintro e w' ⟨rfl, hk⟩; have hz := hk.size; (try (refine kuse (b := w.heap.size) hk (by first | (simp; done) | (simp; omega) | omega) ?_; intro hq0 hg0; have hy0 : w.heap.size < w'.heap.size := (by (try simp at hz); omega); have hn0 : ¬ w.heap.size = w'.heap.size := (by omega); have hm0 : ¬ w.heap.size = w'.heap.size + 1 := (by omega); refine withF (p := w'.cell? ⟨w.heap.size, 0, none⟩ = some (.int .i64 x)) (by first | (rw [hq0]; with_reducible assumption) | (simp (maxDischargeDepth := 7) [go_sem, hq0]; done) | (simp (maxDischargeDepth := 7) [go_sem, hq0, *]; done) | fail) ?_; intro ff00; refine withF (p := w'.cell? ⟨w.heap.size, 1, none⟩ = some (.int .i64 y)) (by first | (rw [hq0]; with_reducible assumption) | (simp (maxDischargeDepth := 7) [go_sem, hq0]; done) | (simp (maxDischargeDepth := 7) [go_sem, hq0, *]; done) | fail) ?_; intro ff01)); (try (refine kuse (b := w.heap.size + 1) hk (by first | (simp; done) | (simp; omega) | omega) ?_; intro hq1 hg1; have hy1 : w.heap.size + 1 < w'.heap.size := (by (try simp at hz); omega); have hn1 : ¬ w.heap.size + 1 = w'.heap.size := (by omega); have hm1 : ¬ w.heap.size + 1 = w'.heap.size + 1 := (by omega); refine withF (p := w'.cell? ⟨w.heap.size + 1, 0, none⟩ = some (.int .i64 0)) (by first | (rw [hq1]; with_reducible assumption) | (simp (maxDischargeDepth := 7) [go_sem, hq1]; done) | (simp (maxDischargeDepth := 7) [go_sem, hq1, *]; done) | fail) ?_; intro ff10; refine withF (p := w'.cell? ⟨w.heap.size + 1, 1, none⟩ = some (.int .i64 0)) (by first | (rw [hq1]; with_reducible assumption) | (simp (maxDischargeDepth := 7) [go_sem, hq1]; done) | (simp (maxDischargeDepth := 7) [go_sem, hq1, *]; done) | fail) ?_; intro ff11; refine withF (p := w'.cell? ⟨w.heap.size + 1, 2, none⟩ = some (.int .i64 0)) (by first | (rw [hq1]; with_reducible assumption) | (simp (maxDischargeDepth := 7) [go_sem, hq1]; done) | (simp (maxDischargeDepth := 7) [go_sem, hq1, *]; done) | fail) ?_; intro ff12; refine withF (p := w'.cell? ⟨w.heap.size + 1, 3, none⟩ = some (.int .i64 0)) (by first | (rw [hq1]; with_reducible assumption) | (simp (maxDischargeDepth := 7) [go_sem, hq1]; done) | (simp (maxDischargeDepth := 7) [go_sem, hq1, *]; done) | fail) ?_; intro ff13))) | (go_at_call 39; (first | with_reducible refine (S2 _).mono ?_); rintro e w' ⟨rfl, hk⟩; have hz := hk.size; (try (refine kuse (b := w.heap.size) hk (by first | (simp; done) | (simp; omega) | omega) ?_; intro hq0 hg0; have hy0 : w.heap.size < w'.heap.size := (by (try simp at hz); omega); have hn0 : ¬ w.heap.size = w'.heap.size := (by omega); have hm0 : ¬ w.heap.size = w'.heap.size + 1 := (by omega); refine withF (p := w'.cell? ⟨w.heap.size, 0, none⟩ = some (.int .i64 x)) (by first | (rw [hq0]; with_reducible assumption) | (simp (maxDischargeDepth := 7) [go_sem, hq0]; done) | (simp (maxDischargeDepth := 7) [go_sem, hq0, *]; done) | fail) ?_; intro ff00; refine withF (p := w'.cell? ⟨w.heap.size, 1, none⟩ = some (.int .i64 y)) (by first | (rw [hq0]; with_reducible assumption) | (simp (maxDischargeDepth := 7) [go_sem, hq0]; done) | (simp (maxDischargeDepth := 7) [go_sem, hq0, *]; done) | fail) ?_; intro ff01)); (try (refine kuse (b := w.heap.size + 1) hk (by first | (simp; done) | (simp; omega) | omega) ?_; intro hq1 hg1; have hy1 : w.heap.size + 1 < w'.heap.size := (by (try simp at hz); omega); have hn1 : ¬ w.heap.size + 1 = w'.heap.size := (by omega); have hm1 : ¬ w.heap.size + 1 = w'.heap.size + 1 := (by omega); refine withF (p := w'.cell? ⟨w.heap.size + 1, 0, none⟩ = some (.int .i64 0)) (by first | (rw [hq1]; with_reducible assumption) | (simp (maxDischargeDepth := 7) [go_sem, hq1]; done) | (simp (maxDischargeDepth := 7) [go_sem, hq1, *]; done) | fail) ?_; intro ff10; refine withF (p := w'.cell? ⟨w.heap.size + 1, 1, none⟩ = some (.int .i64 0)) (by first | (rw [hq1]; with_reducible assumption) | (simp (maxDischargeDepth := 7) [go_sem, hq1]; done) | (simp (maxDischargeDepth := 7) [go_sem, hq1, *]; done) | fail) ?_; intro ff11; refine withF (p := w'.cell? ⟨w.heap.size + 1, 2, none⟩ = some (.int .i64 0)) (by first | (rw [hq1]; with_reducible assumption) | (simp (maxDischargeDepth := 7) [go_sem, hq1]; done) | (simp (maxDischargeDepth := 7) [go_sem, hq1, *]; done) | fail) ?_; intro ff12; refine withF (p := w'.cell? ⟨w.heap.size + 1, 3, none⟩ = some (.int .i64 0)) (by first | (rw [hq1]; with_reducible assumption) | (simp (maxDischargeDepth := 7) [go_sem, hq1]; done) | (simp (maxDischargeDepth := 7) [go_sem, hq1, *]; done) | fail) ?_; intro ff13))))
  all_goals go_wp2_with fail
  all_goals exact bodyPost_ret (v := .tuple #[.agg #[.int .i64 (spL x r), .int .i64 (spH x r), .int .i64 (spL y r), .int .i64 (spH y r)], .int .i64 0]) (by first | (simp [results, Tryd.results18, go_sem]; done) | (simp (maxDischargeDepth := 7) [results, Tryd.results18, go_sem, *]; done)) rfl ⟨rfl, (by repeat (first | with_reducible exact Kept.refl _ | with_reducible assumption | with_reducible refine Kept.setCell ?_ (by first | (simp; done) | (simp; omega) | omega) _ | with_reducible refine Kept.alloc ?_ _ | with_reducible refine Kept.drewN ?_ _ | with_reducible refine Kept.drew ?_ | with_reducible refine Kept.trans ?_ (by with_reducible assumption) | with_reducible refine Kept.dr ?_ (by with_reducible assumption)))⟩
set_option maxHeartbeats 2000000 in
set_option maxRecDepth 100000 in
theorem ref_wside_w (l h : Int) (w : World) : Calls Tryd.prog 49 #[.agg #[.int .i64 l, .int .i64 h]] w fun e w' => e = .returned (.bool (sdB l h)) ∧ Kept w w' := by
  have E : sdB l h = (decide (-400 ≤ l) && decide (l ≤ h) && decide (h ≤ 400)) := by
    unfold sdB wsm
    rw [Bool.eq_iff_iff]
    simp
    omega
  have rb : ∀ a b : Bool, (a = true ↔ b = true) → Ending.returned (.bool a) = .returned (.bool b) := fun a b h => by rw [Bool.eq_iff_iff.2 h]
  rw [E]
  go_enter Tryd.func49, Tryd.ntmps49
  go_wp2
  all_goals first | (go_ret; refine ⟨?_, (by repeat (first | with_reducible exact Kept.refl _ | with_reducible assumption | with_reducible refine Kept.setCell ?_ (by first | (simp; done) | (simp; omega) | omega) _ | with_reducible refine Kept.alloc ?_ _ | with_reducible refine Kept.drewN ?_ _ | with_reducible refine Kept.drew ?_ | with_reducible refine Kept.trans ?_ (by with_reducible assumption) | with_reducible refine Kept.dr ?_ (by with_reducible assumption)))⟩; refine rb _ _ ?_; simp; omega) | (exfalso; omega)
set_option maxHeartbeats 2000000 in
set_option maxRecDepth 100000 in
theorem ref_wbox_w (el eh nl nh : Int) (w : World) : Calls Tryd.prog 32 #[.agg #[.int .i64 el, .int .i64 eh, .int .i64 nl, .int .i64 nh]] w fun e w' => e = .returned (.bool (bxB el eh nl nh)) ∧ Kept w w' := by
  have H1 := fun W => ref_wside_w el eh W
  have H2 := fun W => ref_wside_w nl nh W
  unfold bxB
  cases hx : sdB el eh with
  | false =>
    rw [hx] at H1
    go_enter Tryd.func32, Tryd.ntmps32
    go_wp2_with fail
    with_reducible refine (H1 _).mono ?_
    rintro e w1 ⟨rfl, hk1⟩
    refine kuse (b := w.heap.size) hk1 (by first | (simp; done) | (simp; omega) | omega) ?_
    intro ha hb
    have hz1_0 : w.heap.size < w1.heap.size := by have := hk1.size; (try simp at this); omega
    have hn1_0 : ¬ w.heap.size = w1.heap.size := by omega
    have hm1_0 : ¬ w1.heap.size = w.heap.size := by omega
    have hf1_0_0 : w1.cell? ⟨w.heap.size, 0, none⟩ = some (.int .i64 el) := by first | (rw [ha]; with_reducible assumption) | (simp (maxDischargeDepth := 7) [go_sem, ha]; done) | (rw [ha]; assumption) | (simp (maxDischargeDepth := 7) [go_sem, ha, *]; done)
    have hf1_0_1 : w1.cell? ⟨w.heap.size, 1, none⟩ = some (.int .i64 eh) := by first | (rw [ha]; with_reducible assumption) | (simp (maxDischargeDepth := 7) [go_sem, ha]; done) | (rw [ha]; assumption) | (simp (maxDischargeDepth := 7) [go_sem, ha, *]; done)
    have hf1_0_2 : w1.cell? ⟨w.heap.size, 2, none⟩ = some (.int .i64 nl) := by first | (rw [ha]; with_reducible assumption) | (simp (maxDischargeDepth := 7) [go_sem, ha]; done) | (rw [ha]; assumption) | (simp (maxDischargeDepth := 7) [go_sem, ha, *]; done)
    have hf1_0_3 : w1.cell? ⟨w.heap.size, 3, none⟩ = some (.int .i64 nh) := by first | (rw [ha]; with_reducible assumption) | (simp (maxDischargeDepth := 7) [go_sem, ha]; done) | (rw [ha]; assumption) | (simp (maxDischargeDepth := 7) [go_sem, ha, *]; done)
    try have hg1_0 : ∀ o, w1.frozen? ⟨w.heap.size, o, none⟩ = false := by intro o; first | (simp (maxDischargeDepth := 7) [go_sem, hb]; done) | (rw [hb]; simp (maxDischargeDepth := 7) [go_sem, *]; done)
    clear ha hb
    go_wp2_with fail
    all_goals go_ret
    all_goals exact ⟨rfl, (by repeat (first | with_reducible exact Kept.refl _ | with_reducible assumption | with_reducible refine Kept.setCell ?_ (by first | (simp; done) | (simp; omega) | omega) _ | with_reducible refine Kept.alloc ?_ _ | with_reducible refine Kept.drewN ?_ _ | with_reducible refine Kept.drew ?_ | with_reducible refine Kept.trans ?_ (by with_reducible assumption) | with_reducible refine Kept.dr ?_ (by with_reducible assumption)))⟩
  | true =>
    rw [hx] at H1
    cases hy : sdB nl nh with
    | false =>
      rw [hy] at H2
      go_enter Tryd.func32, Tryd.ntmps32
      go_wp2_with fail
      with_reducible refine (H1 _).mono ?_
      rintro e w1 ⟨rfl, hk1⟩
      refine kuse (b := w.heap.size) hk1 (by first | (simp; done) | (simp; omega) | omega) ?_
      intro ha hb
      have hz1_0 : w.heap.size < w1.heap.size := by have := hk1.size; (try simp at this); omega
      have hn1_0 : ¬ w.heap.size = w1.heap.size := by omega
      have hm1_0 : ¬ w1.heap.size = w.heap.size := by omega
      have hf1_0_0 : w1.cell? ⟨w.heap.size, 0, none⟩ = some (.int .i64 el) := by first | (rw [ha]; with_reducible assumption) | (simp (maxDischargeDepth := 7) [go_sem, ha]; done) | (rw [ha]; assumption) | (simp (maxDischargeDepth := 7) [go_sem, ha, *]; done)
      have hf1_0_1 : w1.cell? ⟨w.heap.size, 1, none⟩ = some (.int .i64 eh) := by first | (rw [ha]; with_reducible assumption) | (simp (maxDischargeDepth := 7) [go_sem, ha]; done) | (rw [ha]; assumption) | (simp (maxDischargeDepth := 7) [go_sem, ha, *]; done)
      have hf1_0_2 : w1.cell? ⟨w.heap.size, 2, none⟩ = some (.int .i64 nl) := by first | (rw [ha]; with_reducible assumption) | (simp (maxDischargeDepth := 7) [go_sem, ha]; done) | (rw [ha]; assumption) | (simp (maxDischargeDepth := 7) [go_sem, ha, *]; done)
      have hf1_0_3 : w1.cell? ⟨w.heap.size, 3, none⟩ = some (.int .i64 nh) := by first | (rw [ha]; with_reducible assumption) | (simp (maxDischargeDepth := 7) [go_sem, ha]; done) | (rw [ha]; assumption) | (simp (maxDischargeDepth := 7) [go_sem, ha, *]; done)
      try have hg1_0 : ∀ o, w1.frozen? ⟨w.heap.size, o, none⟩ = false := by intro o; first | (simp (maxDischargeDepth := 7) [go_sem, hb]; done) | (rw [hb]; simp (maxDischargeDepth := 7) [go_sem, *]; done)
      clear ha hb
      go_wp2_with fail
      with_reducible refine (H2 _).mono ?_
      rintro e w2 ⟨rfl, hk2⟩
      refine kuse (b := w.heap.size) hk2 (by first | (simp; done) | (simp; omega) | omega) ?_
      intro ha hb
      have hz2_0 : w.heap.size < w2.heap.size := by have := hk2.size; (try simp at this); omega
      have hn2_0 : ¬ w.heap.size = w2.heap.size := by omega
      have hm2_0 : ¬ w2.heap.size = w.heap.size := by omega
      have hf2_0_0 : w2.cell? ⟨w.heap.size, 0, none⟩ = some (.int .i64 el) := by first | (rw [ha]; with_reducible assumption) | (simp (maxDischargeDepth := 7) [go_sem, ha]; done) | (rw [ha]; assumption) | (simp (maxDischargeDepth := 7) [go_sem, ha, *]; done)
      have hf2_0_1 : w2.cell? ⟨w.heap.size, 1, none⟩ = some (.int .i64 eh) := by first | (rw [ha]; with_reducible assumption) | (simp (maxDischargeDepth := 7) [go_sem, ha]; done) | (rw [ha]; assumption) | (simp (maxDischargeDepth := 7) [go_sem, ha, *]; done)
      have hf2_0_2 : w2.cell? ⟨w.heap.size, 2, none⟩ = some (.int .i64 nl) := by first | (rw [ha]; with_reducible assumption) | (simp (maxDischargeDepth := 7) [go_sem, ha]; done) | (rw [ha]; assumption) | (simp (maxDischargeDepth := 7) [go_sem, ha, *]; done)
      have hf2_0_3 : w2.cell? ⟨w.heap.size, 3, none⟩ = some (.int .i64 nh) := by first | (rw [ha]; with_reducible assumption) | (simp (maxDischargeDepth := 7) [go_sem, ha]; done) | (rw [ha]; assumption) | (simp (maxDischargeDepth := 7) [go_sem, ha, *]; done)
      try have hg2_0 : ∀ o, w2.frozen? ⟨w.heap.size, o, none⟩ = false := by intro o; first | (simp (maxDischargeDepth := 7) [go_sem, hb]; done) | (rw [hb]; simp (maxDischargeDepth := 7) [go_sem, *]; done)
      clear ha hb
      try clear hf1_0_0
      try clear hf1_0_1
      try clear hf1_0_2
      try clear hf1_0_3
      try clear hg1_0
      go_wp2_with fail
      all_goals go_ret
      all_goals exact ⟨rfl, (by repeat (first | with_reducible exact Kept.refl _ | with_reducible assumption | with_reducible refine Kept.setCell ?_ (by first | (simp; done) | (simp; omega) | omega) _ | with_reducible refine Kept.alloc ?_ _ | with_reducible refine Kept.drewN ?_ _ | with_reducible refine Kept.drew ?_ | with_reducible refine Kept.trans ?_ (by with_reducible assumption) | with_reducible refine Kept.dr ?_ (by with_reducible assumption)))⟩
    | true =>
      rw [hy] at H2
      go_enter Tryd.func32, Tryd.ntmps32
      go_wp2_with fail
      with_reducible refine (H1 _).mono ?_
      rintro e w1 ⟨rfl, hk1⟩
      refine kuse (b := w.heap.size) hk1 (by first | (simp; done) | (simp; omega) | omega) ?_
      intro ha hb
      have hz1_0 : w.heap.size < w1.heap.size := by have := hk1.size; (try simp at this); omega
      have hn1_0 : ¬ w.heap.size = w1.heap.size := by omega
      have hm1_0 : ¬ w1.heap.size = w.heap.size := by omega
      have hf1_0_0 : w1.cell? ⟨w.heap.size, 0, none⟩ = some (.int .i64 el) := by first | (rw [ha]; with_reducible assumption) | (simp (maxDischargeDepth := 7) [go_sem, ha]; done) | (rw [ha]; assumption) | (simp (maxDischargeDepth := 7) [go_sem, ha, *]; done)
      have hf1_0_1 : w1.cell? ⟨w.heap.size, 1, none⟩ = some (.int .i64 eh) := by first | (rw [ha]; with_reducible assumption) | (simp (maxDischargeDepth := 7) [go_sem, ha]; done) | (rw [ha]; assumption) | (simp (maxDischargeDepth := 7) [go_sem, ha, *]; done)
      have hf1_0_2 : w1.cell? ⟨w.heap.size, 2, none⟩ = some (.int .i64 nl) := by first | (rw [ha]; with_reducible assumption) | (simp (maxDischargeDepth := 7) [go_sem, ha]; done) | (rw [ha]; assumption) | (simp (maxDischargeDepth := 7) [go_sem, ha, *]; done)
      have hf1_0_3 : w1.cell? ⟨w.heap.size, 3, none⟩ = some (.int .i64 nh) := by first | (rw [ha]; with_reducible assumption) | (simp (maxDischargeDepth := 7) [go_sem, ha]; done) | (rw [ha]; assumption) | (simp (maxDischargeDepth := 7) [go_sem, ha, *]; done)
      try have hg1_0 : ∀ o, w1.frozen? ⟨w.heap.size, o, none⟩ = false := by intro o; first | (simp (maxDischargeDepth := 7) [go_sem, hb]; done) | (rw [hb]; simp (maxDischargeDepth := 7) [go_sem, *]; done)
      clear ha hb
      go_wp2_with fail
      with_reducible refine (H2 _).mono ?_
      rintro e w2 ⟨rfl, hk2⟩
      refine kuse (b := w.heap.size) hk2 (by first | (simp; done) | (simp; omega) | omega) ?_
      intro ha hb
      have hz2_0 : w.heap.size < w2.heap.size := by have := hk2.size; (try simp at this); omega
      have hn2_0 : ¬ w.heap.size = w2.heap.size := by omega
      have hm2_0 : ¬ w2.heap.size = w.heap.size := by omega
      have hf2_0_0 : w2.cell? ⟨w.heap.size, 0, none⟩ = some (.int .i64 el) := by first | (rw [ha]; with_reducible assumption) | (simp (maxDischargeDepth := 7) [go_sem, ha]; done) | (rw [ha]; assumption) | (simp (maxDischargeDepth := 7) [go_sem, ha, *]; done)
      have hf2_0_1 : w2.cell? ⟨w.heap.size, 1, none⟩ = some (.int .i64 eh) := by first | (rw [ha]; with_reducible assumption) | (simp (maxDischargeDepth := 7) [go_sem, ha]; done) | (rw [ha]; assumption) | (simp (maxDischargeDepth := 7) [go_sem, ha, *]; done)
      have hf2_0_2 : w2.cell? ⟨w.heap.size, 2, none⟩ = some (.int .i64 nl) := by first | (rw [ha]; with_reducible assumption) | (simp (maxDischargeDepth := 7) [go_sem, ha]; done) | (rw [ha]; assumption) | (simp (maxDischargeDepth := 7) [go_sem, ha, *]; done)
      have hf2_0_3 : w2.cell? ⟨w.heap.size, 3, none⟩ = some (.int .i64 nh) := by first | (rw [ha]; with_reducible assumption) | (simp (maxDischargeDepth := 7) [go_sem, ha]; done) | (rw [ha]; assumption) | (simp (maxDischargeDepth := 7) [go_sem, ha, *]; done)
      try have hg2_0 : ∀ o, w2.frozen? ⟨w.heap.size, o, none⟩ = false := by intro o; first | (simp (maxDischargeDepth := 7) [go_sem, hb]; done) | (rw [hb]; simp (maxDischargeDepth := 7) [go_sem, *]; done)
      clear ha hb
      try clear hf1_0_0
      try clear hf1_0_1
      try clear hf1_0_2
      try clear hf1_0_3
      try clear hg1_0
      go_wp2_with fail
      all_goals go_ret
      all_goals exact ⟨rfl, (by repeat (first | with_reducible exact Kept.refl _ | with_reducible assumption | with_reducible refine Kept.setCell ?_ (by first | (simp; done) | (simp; omega) | omega) _ | with_reducible refine Kept.alloc ?_ _ | with_reducible refine Kept.drewN ?_ _ | with_reducible refine Kept.drew ?_ | with_reducible refine Kept.trans ?_ (by with_reducible assumption) | with_reducible refine Kept.dr ?_ (by with_reducible assumption)))⟩
set_option maxHeartbeats 2000000 in
set_option maxRecDepth 100000 in
theorem ref_within_w (el eh nl nh x y : Int) (w : World) : Calls Tryd.prog 11 #[.agg #[.int .i64 el, .int .i64 eh, .int .i64 nl, .int .i64 nh], .agg #[.int .i64 x, .int .i64 y]] w fun e w' => e = .returned (.bool (wnB el eh nl nh x y)) ∧ Kept w w' := by
  have H1 := fun W => ref_wbox_w el eh nl nh W
  have rb : ∀ a b : Bool, (a = true ↔ b = true) → Ending.returned (.bool a) = .returned (.bool b) := fun a b h => by rw [Bool.eq_iff_iff.2 h]
  unfold wnB
  cases hx : bxB el eh nl nh with
  | false =>
    rw [hx] at H1
    rw [Bool.false_and, Bool.false_and, Bool.false_and, Bool.false_and]
    go_enter Tryd.func11, Tryd.ntmps11
    go_wp2_with fail
    with_reducible refine (H1 _).mono ?_
    rintro e w1 ⟨rfl, hk1⟩
    refine kuse (b := w.heap.size) hk1 (by first | (simp; done) | (simp; omega) | omega) ?_
    intro ha hb
    have hz1_0 : w.heap.size < w1.heap.size := by have := hk1.size; (try simp at this); omega
    have hn1_0 : ¬ w.heap.size = w1.heap.size := by omega
    have hm1_0 : ¬ w1.heap.size = w.heap.size := by omega
    have hf1_0_0 : w1.cell? ⟨w.heap.size, 0, none⟩ = some (.int .i64 el) := by first | (rw [ha]; with_reducible assumption) | (simp (maxDischargeDepth := 7) [go_sem, ha]; done) | (rw [ha]; assumption) | (simp (maxDischargeDepth := 7) [go_sem, ha, *]; done)
    have hf1_0_1 : w1.cell? ⟨w.heap.size, 1, none⟩ = some (.int .i64 eh) := by first | (rw [ha]; with_reducible assumption) | (simp (maxDischargeDepth := 7) [go_sem, ha]; done) | (rw [ha]; assumption) | (simp (maxDischargeDepth := 7) [go_sem, ha, *]; done)
    have hf1_0_2 : w1.cell? ⟨w.heap.size, 2, none⟩ = some (.int .i64 nl) := by first | (rw [ha]; with_reducible assumption) | (simp (maxDischargeDepth := 7) [go_sem, ha]; done) | (rw [ha]; assumption) | (simp (maxDischargeDepth := 7) [go_sem, ha, *]; done)
    have hf1_0_3 : w1.cell? ⟨w.heap.size, 3, none⟩ = some (.int .i64 nh) := by first | (rw [ha]; with_reducible assumption) | (simp (maxDischargeDepth := 7) [go_sem, ha]; done) | (rw [ha]; assumption) | (simp (maxDischargeDepth := 7) [go_sem, ha, *]; done)
    try have hg1_0 : ∀ o, w1.frozen? ⟨w.heap.size, o, none⟩ = false := by intro o; first | (simp (maxDischargeDepth := 7) [go_sem, hb]; done) | (rw [hb]; simp (maxDischargeDepth := 7) [go_sem, *]; done)
    clear ha hb
    refine kuse (b := w.heap.size + 1) hk1 (by first | (simp; done) | (simp; omega) | omega) ?_
    intro ha hb
    have hz1_1 : w.heap.size + 1 < w1.heap.size := by have := hk1.size; (try simp at this); omega
    have hn1_1 : ¬ w.heap.size + 1 = w1.heap.size := by omega
    have hm1_1 : ¬ w1.heap.size = w.heap.size + 1 := by omega
    have hf1_1_0 : w1.cell? ⟨w.heap.size + 1, 0, none⟩ = some (.int .i64 x) := by first | (rw [ha]; with_reducible assumption) | (simp (maxDischargeDepth := 7) [go_sem, ha]; done) | (rw [ha]; assumption) | (simp (maxDischargeDepth := 7) [go_sem, ha, *]; done)
    have hf1_1_1 : w1.cell? ⟨w.heap.size + 1, 1, none⟩ = some (.int .i64 y) := by first | (rw [ha]; with_reducible assumption) | (simp (maxDischargeDepth := 7) [go_sem, ha]; done) | (rw [ha]; assumption) | (simp (maxDischargeDepth := 7) [go_sem, ha, *]; done)
    try have hg1_1 : ∀ o, w1.frozen? ⟨w.heap.size + 1, o, none⟩ = false := by intro o; first | (simp (maxDischargeDepth := 7) [go_sem, hb]; done) | (rw [hb]; simp (maxDischargeDepth := 7) [go_sem, *]; done)
    clear ha hb
    go_wp2_with fail
    all_goals first | (go_ret; refine ⟨?_, (by repeat (first | with_reducible exact Kept.refl _ | with_reducible assumption | with_reducible refine Kept.setCell ?_ (by first | (simp; done) | (simp; omega) | omega) _ | with_reducible refine Kept.alloc ?_ _ | with_reducible refine Kept.drewN ?_ _ | with_reducible refine Kept.drew ?_ | with_reducible refine Kept.trans ?_ (by with_reducible assumption) | with_reducible refine Kept.dr ?_ (by with_reducible assumption)))⟩; refine rb _ _ ?_; simp; omega) | (go_ret; exact ⟨rfl, (by repeat (first | with_reducible exact Kept.refl _ | with_reducible assumption | with_reducible refine Kept.setCell ?_ (by first | (simp; done) | (simp; omega) | omega) _ | with_reducible refine Kept.alloc ?_ _ | with_reducible refine Kept.drewN ?_ _ | with_reducible refine Kept.drew ?_ | with_reducible refine Kept.trans ?_ (by with_reducible assumption) | with_reducible refine Kept.dr ?_ (by with_reducible assumption)))⟩) | (exfalso; omega)
  | true =>
    rw [hx] at H1
    rw [Bool.true_and]
    go_enter Tryd.func11, Tryd.ntmps11
    go_wp2_with fail
    with_reducible refine (H1 _).mono ?_
    rintro e w1 ⟨rfl, hk1⟩
    refine kuse (b := w.heap.size) hk1 (by first | (simp; done) | (simp; omega) | omega) ?_
    intro ha hb
    have hz1_0 : w.heap.size < w1.heap.size := by have := hk1.size; (try simp at this); omega
    have hn1_0 : ¬ w.heap.size = w1.heap.size := by omega
    have hm1_0 : ¬ w1.heap.size = w.heap.size := by omega
    have hf1_0_0 : w1.cell? ⟨w.heap.size, 0, none⟩ = some (.int .i64 el) := by first | (rw [ha]; with_reducible assumption) | (simp (maxDischargeDepth := 7) [go_sem, ha]; done) | (rw [ha]; assumption) | (simp (maxDischargeDepth := 7) [go_sem, ha, *]; done)
    have hf1_0_1 : w1.cell? ⟨w.heap.size, 1, none⟩ = some (.int .i64 eh) := by first | (rw [ha]; with_reducible assumption) | (simp (maxDischargeDepth := 7) [go_sem, ha]; done) | (rw [ha]; assumption) | (simp (maxDischargeDepth := 7) [go_sem, ha, *]; done)
    have hf1_0_2 : w1.cell? ⟨w.heap.size, 2, none⟩ = some (.int .i64 nl) := by first | (rw [ha]; with_reducible assumption) | (simp (maxDischargeDepth := 7) [go_sem, ha]; done) | (rw [ha]; assumption) | (simp (maxDischargeDepth := 7) [go_sem, ha, *]; done)
    have hf1_0_3 : w1.cell? ⟨w.heap.size, 3, none⟩ = some (.int .i64 nh) := by first | (rw [ha]; with_reducible assumption) | (simp (maxDischargeDepth := 7) [go_sem, ha]; done) | (rw [ha]; assumption) | (simp (maxDischargeDepth := 7) [go_sem, ha, *]; done)
    try have hg1_0 : ∀ o, w1.frozen? ⟨w.heap.size, o, none⟩ = false := by intro o; first | (simp (maxDischargeDepth := 7) [go_sem, hb]; done) | (rw [hb]; simp (maxDischargeDepth := 7) [go_sem, *]; done)
    clear ha hb
    refine kuse (b := w.heap.size + 1) hk1 (by first | (simp; done) | (simp; omega) | omega) ?_
    intro ha hb
    have hz1_1 : w.heap.size + 1 < w1.heap.size := by have := hk1.size; (try simp at this); omega
    have hn1_1 : ¬ w.heap.size + 1 = w1.heap.size := by omega
    have hm1_1 : ¬ w1.heap.size = w.heap.size + 1 := by omega
    have hf1_1_0 : w1.cell? ⟨w.heap.size + 1, 0, none⟩ = some (.int .i64 x) := by first | (rw [ha]; with_reducible assumption) | (simp (maxDischargeDepth := 7) [go_sem, ha]; done) | (rw [ha]; assumption) | (simp (maxDischargeDepth := 7) [go_sem, ha, *]; done)
    have hf1_1_1 : w1.cell? ⟨w.heap.size + 1, 1, none⟩ = some (.int .i64 y) := by first | (rw [ha]; with_reducible assumption) | (simp (maxDischargeDepth := 7) [go_sem, ha]; done) | (rw [ha]; assumption) | (simp (maxDischargeDepth := 7) [go_sem, ha, *]; done)
    try have hg1_1 : ∀ o, w1.frozen? ⟨w.heap.size + 1, o, none⟩ = false := by intro o; first | (simp (maxDischargeDepth := 7) [go_sem, hb]; done) | (rw [hb]; simp (maxDischargeDepth := 7) [go_sem, *]; done)
    clear ha hb
    go_wp2_with fail
    all_goals first | (go_ret; refine ⟨?_, (by repeat (first | with_reducible exact Kept.refl _ | with_reducible assumption | with_reducible refine Kept.setCell ?_ (by first | (simp; done) | (simp; omega) | omega) _ | with_reducible refine Kept.alloc ?_ _ | with_reducible refine Kept.drewN ?_ _ | with_reducible refine Kept.drew ?_ | with_reducible refine Kept.trans ?_ (by with_reducible assumption) | with_reducible refine Kept.dr ?_ (by with_reducible assumption)))⟩; refine rb _ _ ?_; simp; omega) | (go_ret; exact ⟨rfl, (by repeat (first | with_reducible exact Kept.refl _ | with_reducible assumption | with_reducible refine Kept.setCell ?_ (by first | (simp; done) | (simp; omega) | omega) _ | with_reducible refine Kept.alloc ?_ _ | with_reducible refine Kept.drewN ?_ _ | with_reducible refine Kept.drew ?_ | with_reducible refine Kept.trans ?_ (by with_reducible assumption) | with_reducible refine Kept.dr ?_ (by with_reducible assumption)))⟩) | (exfalso; omega)
end Go.Proofs.YtfpgdicacjkfoaaDoor
