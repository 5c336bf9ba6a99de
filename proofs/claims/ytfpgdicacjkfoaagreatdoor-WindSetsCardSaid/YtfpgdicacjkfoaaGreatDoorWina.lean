/-
  Own contracts: layer 13: the wind triangle.
-/
import Derived.Test.YtfpgdicacjkfoaaGreatDoorWinm
import Derived.Test.YtfpgdicacjkfoaaGreatDoorTrgf
import Derived.Test.YtfpgdicacjkfoaaGreatDoorAngb
import Derived.WalkKit
import Derived.ProofKit
import Derived.OpenShut
import Derived.WalkLawsBesides
import Derived.WalkSpells
import Derived.Lib.Hide
import Derived.Deep.DeepCutAuto
import Derived.Deep.CutBlock
import Derived.Deep.QuietTactic
import Derived.BigQuiet
import Derived.Handy
import Derived.StillTailTactics
import Derived.IntWalk
import Derived.LoopN
import Derived.Deep.RegionHeld3
namespace Go.Proofs.YtfpgdicacjkfoaaGreatDoor
open Go.ChangeShapes Go.WideShapes Go.ChangeAt Go.RowKit
set_option linter.unusedVariables false
set_option linter.unusedSimpArgs false
set_option maxHeartbeats 2000000 in
set_option maxRecDepth 100000 in
theorem wsmall_w (x : Int) (w : World) : Calls Tryz.prog 27 #[.int .i64 x] w fun e w' => e = .returned (.bool (wsm x)) ∧ w = w' := by
  by_cases h : -400 ≤ x ∧ x ≤ 400
  · rw [wsm_is h.1 h.2]
    obtain ⟨h0, h1⟩ := h
    go_enter Tryz.func27, Tryz.ntmps27
    go_wp2
    all_goals first | (go_ret; refine ⟨?_, rfl⟩; first | rfl | (refine retb ?_; simp; omega)) | (exfalso; omega)
  · rw [wsm_not (by omega)]
    have rf : ∀ b : Bool, b = false → Ending.returned (.bool b) = .returned (.bool false) := fun b h => by rw [h]
    rcases (show x < -400 ∨ 400 < x by omega) with h | h
    all_goals
      go_enter Tryz.func27, Tryz.ntmps27
      go_wp2
      all_goals first | (go_ret; refine ⟨?_, rfl⟩; first | rfl | (refine rf _ ?_; simp; omega)) | (exfalso; omega)
set_option maxHeartbeats 2000000 in
set_option maxRecDepth 100000 in
theorem wvalid_w (x y : Int) (w : World) : Calls Tryz.prog 7 #[.agg #[.int .i64 x, .int .i64 y]] w fun e w' => e = .returned (.bool (wok x y)) ∧ Kept w w' := by
  have H1 := fun W => wsmall_w x W
  have H2 := fun W => wsmall_w y W
  unfold wok
  cases hx : wsm x with
  | false =>
    rw [hx] at H1
    go_enter Tryz.func7, Tryz.ntmps7
    go_wp2_with (go_at_call 27; with_reducible refine (H1 _).mono ?_; rintro e w' ⟨rfl, rfl⟩)
    all_goals go_ret
    all_goals exact ⟨rfl, (by repeat (first | with_reducible exact Kept.refl _ | with_reducible assumption | with_reducible refine Kept.setCell ?_ (by first | (simp; done) | (simp; omega) | omega) _ | with_reducible refine Kept.alloc ?_ _ | with_reducible refine Kept.drewN ?_ _ | with_reducible refine Kept.drew ?_ | with_reducible refine Kept.trans ?_ (by with_reducible assumption) | with_reducible refine Kept.dr ?_ (by with_reducible assumption)))⟩
  | true =>
    rw [hx] at H1
    cases hy : wsm y with
    | false =>
      rw [hy] at H2
      go_enter Tryz.func7, Tryz.ntmps7
      go_wp2_with (first | (go_at_call 27; with_reducible refine (H1 _).mono ?_; rintro e w' ⟨rfl, rfl⟩) | (go_at_call 27; with_reducible refine (H2 _).mono ?_; rintro e w' ⟨rfl, rfl⟩))
      all_goals go_ret
      all_goals exact ⟨rfl, (by repeat (first | with_reducible exact Kept.refl _ | with_reducible assumption | with_reducible refine Kept.setCell ?_ (by first | (simp; done) | (simp; omega) | omega) _ | with_reducible refine Kept.alloc ?_ _ | with_reducible refine Kept.drewN ?_ _ | with_reducible refine Kept.drew ?_ | with_reducible refine Kept.trans ?_ (by with_reducible assumption) | with_reducible refine Kept.dr ?_ (by with_reducible assumption)))⟩
    | true =>
      rw [hy] at H2
      go_enter Tryz.func7, Tryz.ntmps7
      go_wp2_with (first | (go_at_call 27; with_reducible refine (H1 _).mono ?_; rintro e w' ⟨rfl, rfl⟩) | (go_at_call 27; with_reducible refine (H2 _).mono ?_; rintro e w' ⟨rfl, rfl⟩))
      all_goals go_ret
      all_goals exact ⟨rfl, (by repeat (first | with_reducible exact Kept.refl _ | with_reducible assumption | with_reducible refine Kept.setCell ?_ (by first | (simp; done) | (simp; omega) | omega) _ | with_reducible refine Kept.alloc ?_ _ | with_reducible refine Kept.drewN ?_ _ | with_reducible refine Kept.drew ?_ | with_reducible refine Kept.trans ?_ (by with_reducible assumption) | with_reducible refine Kept.dr ?_ (by with_reducible assumption)))⟩
set_option maxHeartbeats 2000000 in
set_option maxRecDepth 100000 in
theorem units_w (x : Int) (x0 : -6917529027641081856 ≤ x) (x1 : x ≤ 6917529027641081856) (w : World) : Calls Tryz.prog 30 #[.int .i64 x] w fun e w' => e = .returned (.int .i64 (unt x)) ∧ w = w' := by
  go_enter Tryz.func30, Tryz.ntmps30
  go_wp2
  go_ret
  exact ⟨rfl, rfl⟩
set_option maxHeartbeats 2000000 in
set_option maxRecDepth 100000 in
theorem wparts_ok (c x y : Int) (c_0 : -9223372036854775808 ≤ c) (c_1 : c ≤ 9223372036854775807) (h0 : -400 ≤ x) (h1 : x ≤ 400) (h2 : -400 ≤ y) (h3 : y ≤ 400) (w : World) : Calls Tryz.prog 9 #[.int .i64 c, .agg #[.int .i64 x, .int .i64 y]] w fun e w' => e = .returned (.tuple #[.int .i64 (alo c x y), .int .i64 (acr c x y), .int .i64 0]) ∧ Kept w w' := by
  have HV := fun W => wvalid_w x y W
  rw [wok_is h0 h1 h2 h3] at HV
  obtain ⟨⟨p0, p1⟩, p2, p3⟩ := wprod4 x c h0 h1
  obtain ⟨⟨p4, p5⟩, p6, p7⟩ := wprod4 y c h2 h3
  have wr0 : IntKind.i64.wrap (x * sinV c) = x * sinV c := IntWalk.i64_in _ (by omega)
  have wr1 : IntKind.i64.wrap (x * cosV c) = x * cosV c := IntWalk.i64_in _ (by omega)
  have wr2 : IntKind.i64.wrap (y * sinV c) = y * sinV c := IntWalk.i64_in _ (by omega)
  have wr3 : IntKind.i64.wrap (y * cosV c) = y * cosV c := IntWalk.i64_in _ (by omega)
  have wr4 : IntKind.i64.wrap (x * sinV c + y * cosV c) = x * sinV c + y * cosV c := IntWalk.i64_in _ (by omega)
  have wr5 : IntKind.i64.wrap (x * cosV c - y * sinV c) = x * cosV c - y * sinV c := IntWalk.i64_in _ (by omega)
  obtain ⟨a, qa⟩ : ∃ a, alo c x y = a := ⟨_, rfl⟩
  obtain ⟨b, qb⟩ : ∃ b, acr c x y = b := ⟨_, rfl⟩
  rw [qa, qb]
  have U1 := units_w (x * sinV c + y * cosV c) (by omega) (by omega)
  have U2 := units_w (x * cosV c - y * sinV c) (by omega) (by omega)
  rw [show unt (x * sinV c + y * cosV c) = a from qa] at U1
  rw [show unt (x * cosV c - y * sinV c) = b from qb] at U2
  go_enter Tryz.func9, Tryz.ntmps9
  go_wp2_with fail
  with_reducible refine (HV _).mono ?_
  rintro e w1 ⟨rfl, hk1⟩
  refine kuse (b := w.heap.size) hk1 (by first | (simp; done) | (simp; omega) | omega) ?_
  intro ha hb
  have hz1_0 : w.heap.size < w1.heap.size := by have := hk1.size; (try simp at this); omega
  have hn1_0 : ¬ w.heap.size = w1.heap.size := by omega
  have hm1_0 : ¬ w1.heap.size = w.heap.size := by omega
  have hf1_0_0 : w1.cell? ⟨w.heap.size, 0, none⟩ = some (.int .i64 x) := by first | (rw [ha]; with_reducible assumption) | (simp (maxDischargeDepth := 7) [go_sem, ha]; done) | (rw [ha]; assumption) | (simp (maxDischargeDepth := 7) [go_sem, ha, *]; done)
  have hf1_0_1 : w1.cell? ⟨w.heap.size, 1, none⟩ = some (.int .i64 y) := by first | (rw [ha]; with_reducible assumption) | (simp (maxDischargeDepth := 7) [go_sem, ha]; done) | (rw [ha]; assumption) | (simp (maxDischargeDepth := 7) [go_sem, ha, *]; done)
  try have hg1_0 : ∀ o, w1.frozen? ⟨w.heap.size, o, none⟩ = false := by intro o; first | (simp (maxDischargeDepth := 7) [go_sem, hb]; done) | (rw [hb]; simp (maxDischargeDepth := 7) [go_sem, *]; done)
  clear ha hb
  go_wp2_with fail
  with_reducible refine (sin_w c c_0 c_1 _).mono ?_
  rintro e w2 ⟨rfl, hk2⟩
  refine kuse (b := w.heap.size) hk2 (by first | (simp; done) | (simp; omega) | omega) ?_
  intro ha hb
  have hz2_0 : w.heap.size < w2.heap.size := by have := hk2.size; (try simp at this); omega
  have hn2_0 : ¬ w.heap.size = w2.heap.size := by omega
  have hm2_0 : ¬ w2.heap.size = w.heap.size := by omega
  have hf2_0_0 : w2.cell? ⟨w.heap.size, 0, none⟩ = some (.int .i64 x) := by first | (rw [ha]; with_reducible assumption) | (simp (maxDischargeDepth := 7) [go_sem, ha]; done) | (rw [ha]; assumption) | (simp (maxDischargeDepth := 7) [go_sem, ha, *]; done)
  have hf2_0_1 : w2.cell? ⟨w.heap.size, 1, none⟩ = some (.int .i64 y) := by first | (rw [ha]; with_reducible assumption) | (simp (maxDischargeDepth := 7) [go_sem, ha]; done) | (rw [ha]; assumption) | (simp (maxDischargeDepth := 7) [go_sem, ha, *]; done)
  try have hg2_0 : ∀ o, w2.frozen? ⟨w.heap.size, o, none⟩ = false := by intro o; first | (simp (maxDischargeDepth := 7) [go_sem, hb]; done) | (rw [hb]; simp (maxDischargeDepth := 7) [go_sem, *]; done)
  clear ha hb
  try clear hf1_0_0
  try clear hf1_0_1
  try clear hg1_0
  go_wp2_with fail
  with_reducible refine (cos_w c c_0 c_1 _).mono ?_
  rintro e w3 ⟨rfl, hk3⟩
  refine kuse (b := w.heap.size) hk3 (by first | (simp; done) | (simp; omega) | omega) ?_
  intro ha hb
  have hz3_0 : w.heap.size < w3.heap.size := by have := hk3.size; (try simp at this); omega
  have hn3_0 : ¬ w.heap.size = w3.heap.size := by omega
  have hm3_0 : ¬ w3.heap.size = w.heap.size := by omega
  have hf3_0_0 : w3.cell? ⟨w.heap.size, 0, none⟩ = some (.int .i64 x) := by first | (rw [ha]; with_reducible assumption) | (simp (maxDischargeDepth := 7) [go_sem, ha]; done) | (rw [ha]; assumption) | (simp (maxDischargeDepth := 7) [go_sem, ha, *]; done)
  have hf3_0_1 : w3.cell? ⟨w.heap.size, 1, none⟩ = some (.int .i64 y) := by first | (rw [ha]; with_reducible assumption) | (simp (maxDischargeDepth := 7) [go_sem, ha]; done) | (rw [ha]; assumption) | (simp (maxDischargeDepth := 7) [go_sem, ha, *]; done)
  try have hg3_0 : ∀ o, w3.frozen? ⟨w.heap.size, o, none⟩ = false := by intro o; first | (simp (maxDischargeDepth := 7) [go_sem, hb]; done) | (rw [hb]; simp (maxDischargeDepth := 7) [go_sem, *]; done)
  clear ha hb
  try clear hf2_0_0
  try clear hf2_0_1
  try clear hg2_0
  go_wp2_with fail
  go_region_held3 (fun W => W.cell? ⟨w.heap.size, 0, none⟩ = some (.int .i64 x) ∧ W.cell? ⟨w.heap.size, 1, none⟩ = some (.int .i64 y)) (first | (go_keep; done) | (simp (maxDischargeDepth := 9) [*, World.cell?_alloc_some, World.cell?_setCell_far]; done) | (simp (maxDischargeDepth := 9) [go_sem, *]; done)) (first | (go_at_call 30; with_reducible refine (U1 _).mono ?_; rintro e w' ⟨rfl, rfl⟩) | (go_at_call 30; with_reducible refine (U2 _).mono ?_; rintro e w' ⟨rfl, rfl⟩))
  all_goals go_wp2_with fail
  all_goals exact bodyPost_ret (v := .tuple #[.int .i64 a, .int .i64 b, .int .i64 0]) (by first | (simp [results, Tryz.results9, go_sem]; done) | (simp (maxDischargeDepth := 7) [results, Tryz.results9, go_sem, *]; done)) rfl ⟨rfl, (by repeat (first | with_reducible exact Kept.refl _ | with_reducible assumption | with_reducible refine Kept.setCell ?_ (by first | (simp; done) | (simp; omega) | omega) _ | with_reducible refine Kept.alloc ?_ _ | with_reducible refine Kept.drewN ?_ _ | with_reducible refine Kept.drew ?_ | with_reducible refine Kept.trans ?_ (by with_reducible assumption) | with_reducible refine Kept.dr ?_ (by with_reducible assumption)))⟩
set_option maxHeartbeats 2000000 in
set_option maxRecDepth 100000 in
theorem wparts_bad (c x y : Int) (h : wok x y = false) (w : World) : Calls Tryz.prog 9 #[.int .i64 c, .agg #[.int .i64 x, .int .i64 y]] w fun e w' => e = .returned (.tuple #[.int .i64 0, .int .i64 0, .int .i64 1]) ∧ Kept w w' := by
  have HV := fun W => wvalid_w x y W
  rw [h] at HV
  go_enter Tryz.func9, Tryz.ntmps9
  go_wp2_with fail
  with_reducible refine (HV _).mono ?_
  rintro e w1 ⟨rfl, hk1⟩
  refine kuse (b := w.heap.size) hk1 (by first | (simp; done) | (simp; omega) | omega) ?_
  intro ha hb
  have hz1_0 : w.heap.size < w1.heap.size := by have := hk1.size; (try simp at this); omega
  have hn1_0 : ¬ w.heap.size = w1.heap.size := by omega
  have hm1_0 : ¬ w1.heap.size = w.heap.size := by omega
  have hf1_0_0 : w1.cell? ⟨w.heap.size, 0, none⟩ = some (.int .i64 x) := by first | (rw [ha]; with_reducible assumption) | (simp (maxDischargeDepth := 7) [go_sem, ha]; done) | (rw [ha]; assumption) | (simp (maxDischargeDepth := 7) [go_sem, ha, *]; done)
  have hf1_0_1 : w1.cell? ⟨w.heap.size, 1, none⟩ = some (.int .i64 y) := by first | (rw [ha]; with_reducible assumption) | (simp (maxDischargeDepth := 7) [go_sem, ha]; done) | (rw [ha]; assumption) | (simp (maxDischargeDepth := 7) [go_sem, ha, *]; done)
  try have hg1_0 : ∀ o, w1.frozen? ⟨w.heap.size, o, none⟩ = false := by intro o; first | (simp (maxDischargeDepth := 7) [go_sem, hb]; done) | (rw [hb]; simp (maxDischargeDepth := 7) [go_sem, *]; done)
  clear ha hb
  go_wp2_with fail
  all_goals go_ret3
  all_goals exact ⟨rfl, (by repeat (first | with_reducible exact Kept.refl _ | with_reducible assumption | with_reducible refine Kept.setCell ?_ (by first | (simp; done) | (simp; omega) | omega) _ | with_reducible refine Kept.alloc ?_ _ | with_reducible refine Kept.drewN ?_ _ | with_reducible refine Kept.drew ?_ | with_reducible refine Kept.trans ?_ (by with_reducible assumption) | with_reducible refine Kept.dr ?_ (by with_reducible assumption)))⟩
end Go.Proofs.YtfpgdicacjkfoaaGreatDoor
