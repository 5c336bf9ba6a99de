/-
  Own contracts: layer 13: the document's components of a wind.
-/
import Derived.Test.YtfpgdicacjkfoaaGreatDoorWinm
import Derived.Test.YtfpgdicacjkfoaaGreatDoorTrgf
import Derived.Test.YtfpgdicacjkfoaaGreatDoorAngb
import Derived.WalkKit
import Derived.ProofKit
import Derived.OpenShut
import Derived.WalkLawsBesides
import Derived.WalkSpells
import Derived.Lib.Hide
import Derived.Deep.DeepCutAuto
import Derived.Deep.CutBlock
import Derived.Deep.QuietTactic
import Derived.BigQuiet
import Derived.Handy
import Derived.StillTailTactics
import Derived.IntWalk
import Derived.LoopN
import Derived.Deep.RegionHeld3
namespace Go.Proofs.YtfpgdicacjkfoaaGreatDoor
open Go.ChangeShapes Go.WideShapes Go.ChangeAt Go.RowKit
set_option linter.unusedVariables false
set_option linter.unusedSimpArgs false
set_option maxHeartbeats 2000000 in
set_option maxRecDepth 100000 in
theorem ref_wvalid_w (x y : Int) (w : World) : Calls Tryz.prog 8 #[.agg #[.int .i64 x, .int .i64 y]] w fun e w' => e = .returned (.bool (wok x y)) ∧ Kept w w' := by
  have E : wok x y = (decide (-400 ≤ x) && decide (x ≤ 400) && decide (-400 ≤ y) && decide (y ≤ 400)) := by
    unfold wok wsm
    rw [Bool.eq_iff_iff]
    simp
    omega
  have rb : ∀ a b : Bool, (a = true ↔ b = true) → Ending.returned (.bool a) = .returned (.bool b) := fun a b h => by rw [Bool.eq_iff_iff.2 h]
  rw [E]
  go_enter Tryz.func8, Tryz.ntmps8
  go_wp2
  all_goals first | (go_ret; refine ⟨?_, (by repeat (first | with_reducible exact Kept.refl _ | with_reducible assumption | with_reducible refine Kept.setCell ?_ (by first | (simp; done) | (simp; omega) | omega) _ | with_reducible refine Kept.alloc ?_ _ | with_reducible refine Kept.drewN ?_ _ | with_reducible refine Kept.drew ?_ | with_reducible refine Kept.trans ?_ (by with_reducible assumption) | with_reducible refine Kept.dr ?_ (by with_reducible assumption)))⟩; refine rb _ _ ?_; simp; omega) | (exfalso; omega)
set_option maxHeartbeats 2000000 in
set_option maxRecDepth 100000 in
theorem ref_round20 (x : Int) (x0 : -4611686018427387904 ≤ x) (x1 : x ≤ 4611686018427387904) (w : World) : Calls Tryz.prog 33 #[.int .i64 x, .int .i64 20] w fun e w' => e = .returned (.int .i64 (unt x)) ∧ w = w' := by
  go_enter Tryz.func33, Tryz.ntmps33
  go_wp2
  go_ret
  exact ⟨rfl, rfl⟩
set_option maxHeartbeats 2000000 in
set_option maxRecDepth 100000 in
theorem ref_round30 (x : Int) (x0 : -4611686018427387904 ≤ x) (x1 : x ≤ 4611686018427387904) (w : World) : Calls Tryz.prog 33 #[.int .i64 x, .int .i64 30] w fun e w' => e = .returned (.int .i64 (r30 x)) ∧ w = w' := by
  go_enter Tryz.func33, Tryz.ntmps33
  go_wp2
  go_ret
  exact ⟨rfl, rfl⟩
set_option maxHeartbeats 2000000 in
set_option maxRecDepth 100000 in
theorem ref_wparts_w (c x y : Int) (c_0 : -9223372036854775808 ≤ c) (c_1 : c ≤ 9223372036854775807) (h0 : -400 ≤ x) (h1 : x ≤ 400) (h2 : -400 ≤ y) (h3 : y ≤ 400) (w : World) : Calls Tryz.prog 31 #[.int .i64 c, .int .i64 x, .int .i64 y] w fun e w' => e = .returned (.tuple #[.int .i64 (alo c x y), .int .i64 (acr c x y)]) ∧ w = w' := by
  obtain ⟨⟨p0, p1⟩, p2, p3⟩ := wprod4 x c h0 h1
  obtain ⟨⟨p4, p5⟩, p6, p7⟩ := wprod4 y c h2 h3
  have wr0 : IntKind.i64.wrap (x * sinV c) = x * sinV c := IntWalk.i64_in _ (by omega)
  have wr1 : IntKind.i64.wrap (x * cosV c) = x * cosV c := IntWalk.i64_in _ (by omega)
  have wr2 : IntKind.i64.wrap (y * sinV c) = y * sinV c := IntWalk.i64_in _ (by omega)
  have wr3 : IntKind.i64.wrap (y * cosV c) = y * cosV c := IntWalk.i64_in _ (by omega)
  have wr4 : IntKind.i64.wrap (x * sinV c + y * cosV c) = x * sinV c + y * cosV c := IntWalk.i64_in _ (by omega)
  have wr5 : IntKind.i64.wrap (x * cosV c - y * sinV c) = x * cosV c - y * sinV c := IntWalk.i64_in _ (by omega)
  obtain ⟨a, qa⟩ : ∃ a, alo c x y = a := ⟨_, rfl⟩
  obtain ⟨b, qb⟩ : ∃ b, acr c x y = b := ⟨_, rfl⟩
  rw [qa, qb]
  have U1 := ref_round20 (x * sinV c + y * cosV c) (by omega) (by omega)
  have U2 := ref_round20 (x * cosV c - y * sinV c) (by omega) (by omega)
  rw [show unt (x * sinV c + y * cosV c) = a from qa] at U1
  rw [show unt (x * cosV c - y * sinV c) = b from qb] at U2
  clear qa qb
  go_enter Tryz.func31, Tryz.ntmps31
  go_wp2_with fail
  with_reducible refine (ref_sin_w c c_0 c_1 _).mono ?_
  rintro e w' ⟨rfl, rfl⟩
  go_wp2_with fail
  with_reducible refine (ref_cos_w c c_0 c_1 _).mono ?_
  rintro e w' ⟨rfl, rfl⟩
  go_wp2_with fail
  with_reducible refine (U1 _).mono ?_
  rintro e w' ⟨rfl, rfl⟩
  go_wp2_with fail
  with_reducible refine (U2 _).mono ?_
  rintro e w' ⟨rfl, rfl⟩
  go_wp2_with fail
  all_goals go_ret2
  all_goals exact ⟨rfl, rfl⟩
set_option maxHeartbeats 2000000 in
set_option maxRecDepth 100000 in
theorem ref_wP_bad (c x y : Int) (c_0 : -9223372036854775808 ≤ c) (c_1 : c ≤ 9223372036854775807) (h : wok x y = false) (w : World) : Calls Tryz.prog 10 #[.int .i64 c, .agg #[.int .i64 x, .int .i64 y]] w fun e w' => e = .returned (.tuple #[.int .i64 0, .int .i64 0, .int .i64 1]) ∧ Kept w w' := by
  have HV := fun W => ref_wvalid_w x y W
  rw [h] at HV
  go_enter Tryz.func10, Tryz.ntmps10
  go_wp2_with fail
  with_reducible refine (HV _).mono ?_
  rintro e w1 ⟨rfl, hk1⟩
  refine kuse (b := w.heap.size) hk1 (by first | (simp; done) | (simp; omega) | omega) ?_
  intro ha hb
  have hz1_0 : w.heap.size < w1.heap.size := by have := hk1.size; (try simp at this); omega
  have hn1_0 : ¬ w.heap.size = w1.heap.size := by omega
  have hm1_0 : ¬ w1.heap.size = w.heap.size := by omega
  have hf1_0_0 : w1.cell? ⟨w.heap.size, 0, none⟩ = some (.int .i64 x) := by first | (rw [ha]; with_reducible assumption) | (simp (maxDischargeDepth := 7) [go_sem, ha]; done) | (rw [ha]; assumption) | (simp (maxDischargeDepth := 7) [go_sem, ha, *]; done)
  have hf1_0_1 : w1.cell? ⟨w.heap.size, 1, none⟩ = some (.int .i64 y) := by first | (rw [ha]; with_reducible assumption) | (simp (maxDischargeDepth := 7) [go_sem, ha]; done) | (rw [ha]; assumption) | (simp (maxDischargeDepth := 7) [go_sem, ha, *]; done)
  try have hg1_0 : ∀ o, w1.frozen? ⟨w.heap.size, o, none⟩ = false := by intro o; first | (simp (maxDischargeDepth := 7) [go_sem, hb]; done) | (rw [hb]; simp (maxDischargeDepth := 7) [go_sem, *]; done)
  clear ha hb
  go_wp2_with fail
  all_goals go_ret3
  all_goals exact ⟨rfl, (by repeat (first | with_reducible exact Kept.refl _ | with_reducible assumption | with_reducible refine Kept.setCell ?_ (by first | (simp; done) | (simp; omega) | omega) _ | with_reducible refine Kept.alloc ?_ _ | with_reducible refine Kept.drewN ?_ _ | with_reducible refine Kept.drew ?_ | with_reducible refine Kept.trans ?_ (by with_reducible assumption) | with_reducible refine Kept.dr ?_ (by with_reducible assumption)))⟩
set_option maxHeartbeats 2000000 in
set_option maxRecDepth 100000 in
theorem ref_wP_ok (c x y : Int) (c_0 : -9223372036854775808 ≤ c) (c_1 : c ≤ 9223372036854775807) (h0 : -400 ≤ x) (h1 : x ≤ 400) (h2 : -400 ≤ y) (h3 : y ≤ 400) (w : World) : Calls Tryz.prog 10 #[.int .i64 c, .agg #[.int .i64 x, .int .i64 y]] w fun e w' => e = .returned (.tuple #[.int .i64 (alo c x y), .int .i64 (acr c x y), .int .i64 0]) ∧ Kept w w' := by
  have HV := fun W => ref_wvalid_w x y W
  rw [wok_is h0 h1 h2 h3] at HV
  have HP := fun W => ref_wparts_w c x y c_0 c_1 h0 h1 h2 h3 W
  go_enter Tryz.func10, Tryz.ntmps10
  go_wp2_with fail
  with_reducible refine (HV _).mono ?_
  rintro e w1 ⟨rfl, hk1⟩
  refine kuse (b := w.heap.size) hk1 (by first | (simp; done) | (simp; omega) | omega) ?_
  intro ha hb
  have hz1_0 : w.heap.size < w1.heap.size := by have := hk1.size; (try simp at this); omega
  have hn1_0 : ¬ w.heap.size = w1.heap.size := by omega
  have hm1_0 : ¬ w1.heap.size = w.heap.size := by omega
  have hf1_0_0 : w1.cell? ⟨w.heap.size, 0, none⟩ = some (.int .i64 x) := by first | (rw [ha]; with_reducible assumption) | (simp (maxDischargeDepth := 7) [go_sem, ha]; done) | (rw [ha]; assumption) | (simp (maxDischargeDepth := 7) [go_sem, ha, *]; done)
  have hf1_0_1 : w1.cell? ⟨w.heap.size, 1, none⟩ = some (.int .i64 y) := by first | (rw [ha]; with_reducible assumption) | (simp (maxDischargeDepth := 7) [go_sem, ha]; done) | (rw [ha]; assumption) | (simp (maxDischargeDepth := 7) [go_sem, ha, *]; done)
  try have hg1_0 : ∀ o, w1.frozen? ⟨w.heap.size, o, none⟩ = false := by intro o; first | (simp (maxDischargeDepth := 7) [go_sem, hb]; done) | (rw [hb]; simp (maxDischargeDepth := 7) [go_sem, *]; done)
  clear ha hb
  go_wp2_with fail
  with_reducible refine (HP _).mono ?_
  rintro e w' ⟨rfl, rfl⟩
  go_wp2_with fail
  all_goals go_ret3
  all_goals exact ⟨rfl, (by repeat (first | with_reducible exact Kept.refl _ | with_reducible assumption | with_reducible refine Kept.setCell ?_ (by first | (simp; done) | (simp; omega) | omega) _ | with_reducible refine Kept.alloc ?_ _ | with_reducible refine Kept.drewN ?_ _ | with_reducible refine Kept.drew ?_ | with_reducible refine Kept.trans ?_ (by with_reducible assumption) | with_reducible refine Kept.dr ?_ (by with_reducible assumption)))⟩
end Go.Proofs.YtfpgdicacjkfoaaGreatDoor
