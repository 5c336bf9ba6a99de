/-
  Own contracts: layer 13: course over ground, winds by direction.
-/
import Derived.Test.YtfpgdicacjkfoaaGreatDoorWina
import Derived.Test.YtfpgdicacjkfoaaGreatDoorWinr
import Derived.WalkKit
import Derived.ProofKit
import Derived.OpenShut
import Derived.WalkLawsBesides
import Derived.WalkSpells
import Derived.Lib.Hide
import Derived.Deep.DeepCutAuto
import Derived.Deep.CutBlock
import Derived.Deep.QuietTactic
import Derived.BigQuiet
import Derived.Handy
import Derived.StillTailTactics
import Derived.IntWalk
import Derived.LoopN
import Derived.Deep.RegionHeld3
namespace Go.Proofs.YtfpgdicacjkfoaaGreatDoor
open Go.ChangeShapes Go.WideShapes Go.ChangeAt Go.RowKit
set_option linter.unusedVariables false
set_option linter.unusedSimpArgs false
theorem kE_arg {h t x y : Int} (k : wok x y = false ∨ t < 1 ∨ 4000 < t) : kE h t x y = 1 ∧ kC h t x y = 0 ∧ kG h t x y = 0 := by
  have e : kE h t x y = 1 := if_pos k
  exact ⟨e, by unfold kC; rw [e]; rfl, by unfold kG; rw [e]; rfl⟩
theorem kE_g {h t x y : Int} (k : ¬ (wok x y = false ∨ t < 1 ∨ 4000 < t)) (l : hyV (tkX h t x) (tkY h t y) < 1024) : kE h t x y = 10 ∧ kC h t x y = 0 ∧ kG h t x y = 0 := by
  have e : kE h t x y = 10 := by unfold kE; rw [if_neg k, if_pos l]
  exact ⟨e, by unfold kC; rw [e]; rfl, by unfold kG; rw [e]; rfl⟩
theorem kE_ok {h t x y : Int} (k : ¬ (wok x y = false ∨ t < 1 ∨ 4000 < t)) (l : ¬ hyV (tkX h t x) (tkY h t y) < 1024) : kE h t x y = 0 ∧ kC h t x y = at2V (tkX h t x) (tkY h t y) ∧ kG h t x y = hyV (tkX h t x) (tkY h t y) := by
  have e : kE h t x y = 0 := by unfold kE; rw [if_neg k, if_neg l]
  exact ⟨e, if_pos e, if_pos e⟩
theorem p_no {x y : Int} (h : wok x y = false) : pE x y = 1 ∧ fA1 x y = 0 ∧ fS1 x y = 0 := by
  have e : pE x y = 1 := if_pos h
  exact ⟨e, by unfold fA1; rw [e]; rfl, by unfold fS1; rw [e]; rfl⟩
theorem p_ok {x y : Int} (h : wok x y = true) : pE x y = 0 ∧ fA1 x y = at2V (-x) (-y) ∧ fS1 x y = hyV x y := by
  have e : pE x y = 0 := by unfold pE; rw [h]; rfl
  exact ⟨e, if_pos e, if_pos e⟩
theorem of_no {f s : Int} (h : s < 0 ∨ 400 < s) : ofE s = 1 ∧ ofX f s = 0 ∧ ofY f s = 0 := by
  have e : ofE s = 1 := if_pos h
  exact ⟨e, by unfold ofX; rw [e]; rfl, by unfold ofY; rw [e]; rfl⟩
theorem of_ok' {f s : Int} (h : ¬ (s < 0 ∨ 400 < s)) : ofE s = 0 ∧ ofX f s = r30 (-s * sinV f) ∧ ofY f s = r30 (-s * cosV f) := by
  have e : ofE s = 0 := if_neg h
  exact ⟨e, if_pos e, if_pos e⟩
theorem hyV_bd (x y : Int) (x0 : -4505600 ≤ x) (x1 : x ≤ 4505600) (y0 : -4505600 ≤ y) (y1 : y ≤ 4505600) : 0 ≤ hyV x y ∧ hyV x y ≤ 4294967295 := by
  unfold hyV
  split
  · omega
  · have a := mul_sb' x x 4505600 4505600 x0 x1 x0 x1
    have b := mul_sb' y y 4505600 4505600 y0 y1 y0 y1
    have a' : 0 ≤ x * x := by rw [← sq_iabs]; exact Int.mul_nonneg (iabs_nn x).1 (iabs_nn x).1
    have b' : 0 ≤ y * y := by rw [← sq_iabs]; exact Int.mul_nonneg (iabs_nn y).1 (iabs_nn y).1
    have := isq_ok (x * x + y * y) (by omega) (by omega)
    exact ⟨this.1, this.2.2.2⟩
theorem wrnd_w (a : Int) (a0 : -9223372036854775808 ≤ a) (a1 : a ≤ 9223372036854775807) (w : World) : Calls Tryz.prog 32 #[.int .i64 a, .int .i64 1073741824] w fun e w' => e = .returned (.tuple #[.int .i64 (mqv 2 a 1 1073741824), .int .i64 (mqe 2 a 1 1073741824)]) ∧ Kept w w' := (round_w a 1073741824 a0 a1 (by omega) (by omega) w).mono fun _ _ k => ⟨k.1, k.2.kept⟩
set_option maxHeartbeats 2000000 in
set_option maxRecDepth 100000 in
theorem tk_arg (c t x y : Int) (c_0 : -9223372036854775808 ≤ c) (c_1 : c ≤ 9223372036854775807) (t_0 : -9223372036854775808 ≤ t) (t_1 : t ≤ 9223372036854775807) (h : wok x y = false) (w : World) : Calls Tryz.prog 17 #[.int .i64 c, .int .i64 t, .agg #[.int .i64 x, .int .i64 y]] w fun e w' => e = .returned (.tuple #[.int .i64 0, .int .i64 0, .int .i64 1]) ∧ Kept w w' := by
  have HV := fun W => wvalid_w x y W
  rw [h] at HV
  go_enter Tryz.func17, Tryz.ntmps17
  go_wp2_with fail
  with_reducible refine (HV _).mono ?_
  rintro e w1 ⟨rfl, hk1⟩
  refine kuse (b := w.heap.size) hk1 (by first | (simp; done) | (simp; omega) | omega) ?_
  intro ha hb
  have hz1_0 : w.heap.size < w1.heap.size := by have := hk1.size; (try simp at this); omega
  have hn1_0 : ¬ w.heap.size = w1.heap.size := by omega
  have hm1_0 : ¬ w1.heap.size = w.heap.size := by omega
  have hf1_0_0 : w1.cell? ⟨w.heap.size, 0, none⟩ = some (.int .i64 x) := by first | (rw [ha]; with_reducible assumption) | (simp (maxDischargeDepth := 7) [go_sem, ha]; done) | (rw [ha]; assumption) | (simp (maxDischargeDepth := 7) [go_sem, ha, *]; done)
  have hf1_0_1 : w1.cell? ⟨w.heap.size, 1, none⟩ = some (.int .i64 y) := by first | (rw [ha]; with_reducible assumption) | (simp (maxDischargeDepth := 7) [go_sem, ha]; done) | (rw [ha]; assumption) | (simp (maxDischargeDepth := 7) [go_sem, ha, *]; done)
  try have hg1_0 : ∀ o, w1.frozen? ⟨w.heap.size, o, none⟩ = false := by intro o; first | (simp (maxDischargeDepth := 7) [go_sem, hb]; done) | (rw [hb]; simp (maxDischargeDepth := 7) [go_sem, *]; done)
  clear ha hb
  go_wp2_with fail
  all_goals go_ret3
  all_goals exact ⟨rfl, (by repeat (first | with_reducible exact Kept.refl _ | with_reducible assumption | with_reducible refine Kept.setCell ?_ (by first | (simp; done) | (simp; omega) | omega) _ | with_reducible refine Kept.alloc ?_ _ | with_reducible refine Kept.drewN ?_ _ | with_reducible refine Kept.drew ?_ | with_reducible refine Kept.trans ?_ (by with_reducible assumption) | with_reducible refine Kept.dr ?_ (by with_reducible assumption)))⟩
set_option maxHeartbeats 2000000 in
set_option maxRecDepth 100000 in
theorem tk_tas (c t x y : Int) (c_0 : -9223372036854775808 ≤ c) (c_1 : c ≤ 9223372036854775807) (t_0 : -9223372036854775808 ≤ t) (t_1 : t ≤ 9223372036854775807) (h0 : -400 ≤ x) (h1 : x ≤ 400) (h2 : -400 ≤ y) (h3 : y ≤ 400) (h : t < 1 ∨ 4000 < t) (w : World) : Calls Tryz.prog 17 #[.int .i64 c, .int .i64 t, .agg #[.int .i64 x, .int .i64 y]] w fun e w' => e = .returned (.tuple #[.int .i64 0, .int .i64 0, .int .i64 1]) ∧ Kept w w' := by
  rcases h with h | h
  all_goals
    have HV := fun W => wvalid_w x y W
    rw [wok_is h0 h1 h2 h3] at HV
    go_enter Tryz.func17, Tryz.ntmps17
    go_wp2_with fail
    with_reducible refine (HV _).mono ?_
    rintro e w1 ⟨rfl, hk1⟩
    refine kuse (b := w.heap.size) hk1 (by first | (simp; done) | (simp; omega) | omega) ?_
    intro ha hb
    have hz1_0 : w.heap.size < w1.heap.size := by have := hk1.size; (try simp at this); omega
    have hn1_0 : ¬ w.heap.size = w1.heap.size := by omega
    have hm1_0 : ¬ w1.heap.size = w.heap.size := by omega
    have hf1_0_0 : w1.cell? ⟨w.heap.size, 0, none⟩ = some (.int .i64 x) := by first | (rw [ha]; with_reducible assumption) | (simp (maxDischargeDepth := 7) [go_sem, ha]; done) | (rw [ha]; assumption) | (simp (maxDischargeDepth := 7) [go_sem, ha, *]; done)
    have hf1_0_1 : w1.cell? ⟨w.heap.size, 1, none⟩ = some (.int .i64 y) := by first | (rw [ha]; with_reducible assumption) | (simp (maxDischargeDepth := 7) [go_sem, ha]; done) | (rw [ha]; assumption) | (simp (maxDischargeDepth := 7) [go_sem, ha, *]; done)
    try have hg1_0 : ∀ o, w1.frozen? ⟨w.heap.size, o, none⟩ = false := by intro o; first | (simp (maxDischargeDepth := 7) [go_sem, hb]; done) | (rw [hb]; simp (maxDischargeDepth := 7) [go_sem, *]; done)
    clear ha hb
    go_wp2_with fail
    all_goals go_ret3
    all_goals exact ⟨rfl, (by repeat (first | with_reducible exact Kept.refl _ | with_reducible assumption | with_reducible refine Kept.setCell ?_ (by first | (simp; done) | (simp; omega) | omega) _ | with_reducible refine Kept.alloc ?_ _ | with_reducible refine Kept.drewN ?_ _ | with_reducible refine Kept.drew ?_ | with_reducible refine Kept.trans ?_ (by with_reducible assumption) | with_reducible refine Kept.dr ?_ (by with_reducible assumption)))⟩
set_option maxHeartbeats 2000000 in
set_option maxRecDepth 100000 in
theorem tk_g (c t x y : Int) (c_0 : -9223372036854775808 ≤ c) (c_1 : c ≤ 9223372036854775807) (h0 : -400 ≤ x) (h1 : x ≤ 400) (h2 : -400 ≤ y) (h3 : y ≤ 400) (t0 : 1 ≤ t) (t1 : t ≤ 4000) (l : hyV (tkX c t x) (tkY c t y) < 1024) (w : World) : Calls Tryz.prog 17 #[.int .i64 c, .int .i64 t, .agg #[.int .i64 x, .int .i64 y]] w fun e w' => e = .returned (.tuple #[.int .i64 0, .int .i64 0, .int .i64 10]) ∧ Kept w w' := by
  obtain ⟨⟨p0, p1⟩, p2, p3⟩ := wprod t c (by omega) t1
  have HV := fun W => wvalid_w x y W
  rw [wok_is h0 h1 h2 h3] at HV
  have wr0 : IntKind.i64.wrap (t * sinV c) = t * sinV c := IntWalk.i64_in _ (by omega)
  have wr1 : IntKind.i64.wrap (t * cosV c) = t * cosV c := IntWalk.i64_in _ (by omega)
  have wr2 : IntKind.i64.wrap (x * 1073741824) = x * 1073741824 := IntWalk.i64_in _ (by omega)
  have wr3 : IntKind.i64.wrap (y * 1073741824) = y * 1073741824 := IntWalk.i64_in _ (by omega)
  have wr4 : IntKind.i64.wrap (t * sinV c + x * 1073741824) = t * sinV c + x * 1073741824 := IntWalk.i64_in _ (by omega)
  have wr5 : IntKind.i64.wrap (t * cosV c + y * 1073741824) = t * cosV c + y * 1073741824 := IntWalk.i64_in _ (by omega)
  obtain ⟨⟨k0, k1⟩, _⟩ := tk_bd c t t0 t1 h0 h1
  obtain ⟨_, k2, k3⟩ := tk_bd c t t0 t1 h2 h3
  have U1 := units_w (t * sinV c + x * 1073741824) (by omega) (by omega)
  have U2 := units_w (t * cosV c + y * 1073741824) (by omega) (by omega)
  obtain ⟨X, qX⟩ : ∃ X, tkX c t x = X := ⟨_, rfl⟩
  obtain ⟨Y, qY⟩ : ∃ Y, tkY c t y = Y := ⟨_, rfl⟩
  rw [show unt (t * sinV c + x * 1073741824) = X from qX] at U1
  rw [show unt (t * cosV c + y * 1073741824) = Y from qY] at U2
  rw [qX] at k0 k1
  rw [qY] at k2 k3
  obtain ⟨g0, g1⟩ := hyV_bd X Y k0 k1 k2 k3
  have HH := hypot_w X Y (by omega) (by omega) (by omega) (by omega)
  have HT := atan2_w X Y (by omega) (by omega) (by omega) (by omega)
  rw [qX, qY] at l
  clear qX qY
  obtain ⟨G, qG⟩ : ∃ G, hyV X Y = G := ⟨_, rfl⟩
  rw [qG] at l g0 g1 HH
  clear qG
  go_enter Tryz.func17, Tryz.ntmps17
  go_wp2_with fail
  with_reducible refine (HV _).mono ?_
  rintro e w1 ⟨rfl, hk1⟩
  refine kuse (b := w.heap.size) hk1 (by first | (simp; done) | (simp; omega) | omega) ?_
  intro ha hb
  have hz1_0 : w.heap.size < w1.heap.size := by have := hk1.size; (try simp at this); omega
  have hn1_0 : ¬ w.heap.size = w1.heap.size := by omega
  have hm1_0 : ¬ w1.heap.size = w.heap.size := by omega
  have hf1_0_0 : w1.cell? ⟨w.heap.size, 0, none⟩ = some (.int .i64 x) := by first | (rw [ha]; with_reducible assumption) | (simp (maxDischargeDepth := 7) [go_sem, ha]; done) | (rw [ha]; assumption) | (simp (maxDischargeDepth := 7) [go_sem, ha, *]; done)
  have hf1_0_1 : w1.cell? ⟨w.heap.size, 1, none⟩ = some (.int .i64 y) := by first | (rw [ha]; with_reducible assumption) | (simp (maxDischargeDepth := 7) [go_sem, ha]; done) | (rw [ha]; assumption) | (simp (maxDischargeDepth := 7) [go_sem, ha, *]; done)
  try have hg1_0 : ∀ o, w1.frozen? ⟨w.heap.size, o, none⟩ = false := by intro o; first | (simp (maxDischargeDepth := 7) [go_sem, hb]; done) | (rw [hb]; simp (maxDischargeDepth := 7) [go_sem, *]; done)
  clear ha hb
  go_wp2_with fail
  go_region_held3 (fun W => W.cell? ⟨w.heap.size, 0, none⟩ = some (.int .i64 x) ∧ W.cell? ⟨w.heap.size, 1, none⟩ = some (.int .i64 y)) (first | (go_keep; done) | (simp (maxDischargeDepth := 9) [*, World.cell?_alloc_some, World.cell?_setCell_far]; done) | (simp (maxDischargeDepth := 9) [go_sem, *]; done)) (first | (go_at_call 28; (first | with_reducible refine (sin_w c c_0 c_1 _).mono ?_); rintro e w' ⟨rfl, hk⟩; have hz := hk.size; (try (refine kuse (b := w.heap.size) hk (by first | (simp; done) | (simp; omega) | omega) ?_; intro hq0 hg0; have hy0 : w.heap.size < w'.heap.size := (by (try simp at hz); omega); have hn0 : ¬ w.heap.size = w'.heap.size := (by omega); have hm0 : ¬ w.heap.size = w'.heap.size + 1 := (by omega); refine withF (p := w'.cell? ⟨w.heap.size, 0, none⟩ = some (.int .i64 x)) (by first | (rw [hq0]; with_reducible assumption) | (simp (maxDischargeDepth := 7) [go_sem, hq0]; done) | (simp (maxDischargeDepth := 7) [go_sem, hq0, *]; done) | fail) ?_; intro ff00; refine withF (p := w'.cell? ⟨w.heap.size, 1, none⟩ = some (.int .i64 y)) (by first | (rw [hq0]; with_reducible assumption) | (simp (maxDischargeDepth := 7) [go_sem, hq0]; done) | (simp (maxDischargeDepth := 7) [go_sem, hq0, *]; done) | fail) ?_; intro ff01))) | (go_at_call 30; with_reducible refine (U1 _).mono ?_; rintro e w' ⟨rfl, rfl⟩))
  all_goals go_wp2_with fail
  go_region_held3 (fun W => W.cell? ⟨w.heap.size, 0, none⟩ = some (.int .i64 x) ∧ W.cell? ⟨w.heap.size, 1, none⟩ = some (.int .i64 y)) (first | (go_keep; done) | (simp (maxDischargeDepth := 9) [*, World.cell?_alloc_some, World.cell?_setCell_far]; done) | (simp (maxDischargeDepth := 9) [go_sem, *]; done)) (first | (go_at_call 29; (first | with_reducible refine (cos_w c c_0 c_1 _).mono ?_); rintro e w' ⟨rfl, hk⟩; have hz := hk.size; (try (refine kuse (b := w.heap.size) hk (by first | (simp; done) | (simp; omega) | omega) ?_; intro hq0 hg0; have hy0 : w.heap.size < w'.heap.size := (by (try simp at hz); omega); have hn0 : ¬ w.heap.size = w'.heap.size := (by omega); have hm0 : ¬ w.heap.size = w'.heap.size + 1 := (by omega); refine withF (p := w'.cell? ⟨w.heap.size, 0, none⟩ = some (.int .i64 x)) (by first | (rw [hq0]; with_reducible assumption) | (simp (maxDischargeDepth := 7) [go_sem, hq0]; done) | (simp (maxDischargeDepth := 7) [go_sem, hq0, *]; done) | fail) ?_; intro ff00; refine withF (p := w'.cell? ⟨w.heap.size, 1, none⟩ = some (.int .i64 y)) (by first | (rw [hq0]; with_reducible assumption) | (simp (maxDischargeDepth := 7) [go_sem, hq0]; done) | (simp (maxDischargeDepth := 7) [go_sem, hq0, *]; done) | fail) ?_; intro ff01))) | (go_at_call 30; with_reducible refine (U2 _).mono ?_; rintro e w' ⟨rfl, rfl⟩))
  all_goals go_wp2_with fail
  with_reducible refine (HH _).mono ?_
  rintro e w' ⟨rfl, rfl⟩
  go_wp2_with fail
  all_goals go_ret3
  all_goals exact ⟨rfl, (by repeat (first | with_reducible exact Kept.refl _ | with_reducible assumption | with_reducible refine Kept.setCell ?_ (by first | (simp; done) | (simp; omega) | omega) _ | with_reducible refine Kept.alloc ?_ _ | with_reducible refine Kept.drewN ?_ _ | with_reducible refine Kept.drew ?_ | with_reducible refine Kept.trans ?_ (by with_reducible assumption) | with_reducible refine Kept.dr ?_ (by with_reducible assumption)))⟩
set_option maxHeartbeats 2000000 in
set_option maxRecDepth 100000 in
theorem tk_ok (c t x y : Int) (c_0 : -9223372036854775808 ≤ c) (c_1 : c ≤ 9223372036854775807) (h0 : -400 ≤ x) (h1 : x ≤ 400) (h2 : -400 ≤ y) (h3 : y ≤ 400) (t0 : 1 ≤ t) (t1 : t ≤ 4000) (l : ¬ hyV (tkX c t x) (tkY c t y) < 1024) (w : World) : Calls Tryz.prog 17 #[.int .i64 c, .int .i64 t, .agg #[.int .i64 x, .int .i64 y]] w fun e w' => e = .returned (.tuple #[.int .i64 (at2V (tkX c t x) (tkY c t y)), .int .i64 (hyV (tkX c t x) (tkY c t y)), .int .i64 0]) ∧ Kept w w' := by
  obtain ⟨⟨p0, p1⟩, p2, p3⟩ := wprod t c (by omega) t1
  have HV := fun W => wvalid_w x y W
  rw [wok_is h0 h1 h2 h3] at HV
  have wr0 : IntKind.i64.wrap (t * sinV c) = t * sinV c := IntWalk.i64_in _ (by omega)
  have wr1 : IntKind.i64.wrap (t * cosV c) = t * cosV c := IntWalk.i64_in _ (by omega)
  have wr2 : IntKind.i64.wrap (x * 1073741824) = x * 1073741824 := IntWalk.i64_in _ (by omega)
  have wr3 : IntKind.i64.wrap (y * 1073741824) = y * 1073741824 := IntWalk.i64_in _ (by omega)
  have wr4 : IntKind.i64.wrap (t * sinV c + x * 1073741824) = t * sinV c + x * 1073741824 := IntWalk.i64_in _ (by omega)
  have wr5 : IntKind.i64.wrap (t * cosV c + y * 1073741824) = t * cosV c + y * 1073741824 := IntWalk.i64_in _ (by omega)
  obtain ⟨⟨k0, k1⟩, _⟩ := tk_bd c t t0 t1 h0 h1
  obtain ⟨_, k2, k3⟩ := tk_bd c t t0 t1 h2 h3
  have U1 := units_w (t * sinV c + x * 1073741824) (by omega) (by omega)
  have U2 := units_w (t * cosV c + y * 1073741824) (by omega) (by omega)
  obtain ⟨X, qX⟩ : ∃ X, tkX c t x = X := ⟨_, rfl⟩
  obtain ⟨Y, qY⟩ : ∃ Y, tkY c t y = Y := ⟨_, rfl⟩
  rw [show unt (t * sinV c + x * 1073741824) = X from qX] at U1
  rw [show unt (t * cosV c + y * 1073741824) = Y from qY] at U2
  rw [qX] at k0 k1
  rw [qY] at k2 k3
  obtain ⟨g0, g1⟩ := hyV_bd X Y k0 k1 k2 k3
  have HH := hypot_w X Y (by omega) (by omega) (by omega) (by omega)
  have HT := atan2_w X Y (by omega) (by omega) (by omega) (by omega)
  rw [qX, qY] at l
  rw [qX, qY]
  clear qX qY
  obtain ⟨G, qG⟩ : ∃ G, hyV X Y = G := ⟨_, rfl⟩
  rw [qG] at l g0 g1 HH
  rw [qG]
  clear qG
  go_enter Tryz.func17, Tryz.ntmps17
  go_wp2_with fail
  with_reducible refine (HV _).mono ?_
  rintro e w1 ⟨rfl, hk1⟩
  refine kuse (b := w.heap.size) hk1 (by first | (simp; done) | (simp; omega) | omega) ?_
  intro ha hb
  have hz1_0 : w.heap.size < w1.heap.size := by have := hk1.size; (try simp at this); omega
  have hn1_0 : ¬ w.heap.size = w1.heap.size := by omega
  have hm1_0 : ¬ w1.heap.size = w.heap.size := by omega
  have hf1_0_0 : w1.cell? ⟨w.heap.size, 0, none⟩ = some (.int .i64 x) := by first | (rw [ha]; with_reducible assumption) | (simp (maxDischargeDepth := 7) [go_sem, ha]; done) | (rw [ha]; assumption) | (simp (maxDischargeDepth := 7) [go_sem, ha, *]; done)
  have hf1_0_1 : w1.cell? ⟨w.heap.size, 1, none⟩ = some (.int .i64 y) := by first | (rw [ha]; with_reducible assumption) | (simp (maxDischargeDepth := 7) [go_sem, ha]; done) | (rw [ha]; assumption) | (simp (maxDischargeDepth := 7) [go_sem, ha, *]; done)
  try have hg1_0 : ∀ o, w1.frozen? ⟨w.heap.size, o, none⟩ = false := by intro o; first | (simp (maxDischargeDepth := 7) [go_sem, hb]; done) | (rw [hb]; simp (maxDischargeDepth := 7) [go_sem, *]; done)
  clear ha hb
  go_wp2_with fail
  go_region_held3 (fun W => W.cell? ⟨w.heap.size, 0, none⟩ = some (.int .i64 x) ∧ W.cell? ⟨w.heap.size, 1, none⟩ = some (.int .i64 y)) (first | (go_keep; done) | (simp (maxDischargeDepth := 9) [*, World.cell?_alloc_some, World.cell?_setCell_far]; done) | (simp (maxDischargeDepth := 9) [go_sem, *]; done)) (first | (go_at_call 28; (first | with_reducible refine (sin_w c c_0 c_1 _).mono ?_); rintro e w' ⟨rfl, hk⟩; have hz := hk.size; (try (refine kuse (b := w.heap.size) hk (by first | (simp; done) | (simp; omega) | omega) ?_; intro hq0 hg0; have hy0 : w.heap.size < w'.heap.size := (by (try simp at hz); omega); have hn0 : ¬ w.heap.size = w'.heap.size := (by omega); have hm0 : ¬ w.heap.size = w'.heap.size + 1 := (by omega); refine withF (p := w'.cell? ⟨w.heap.size, 0, none⟩ = some (.int .i64 x)) (by first | (rw [hq0]; with_reducible assumption) | (simp (maxDischargeDepth := 7) [go_sem, hq0]; done) | (simp (maxDischargeDepth := 7) [go_sem, hq0, *]; done) | fail) ?_; intro ff00; refine withF (p := w'.cell? ⟨w.heap.size, 1, none⟩ = some (.int .i64 y)) (by first | (rw [hq0]; with_reducible assumption) | (simp (maxDischargeDepth := 7) [go_sem, hq0]; done) | (simp (maxDischargeDepth := 7) [go_sem, hq0, *]; done) | fail) ?_; intro ff01))) | (go_at_call 30; with_reducible refine (U1 _).mono ?_; rintro e w' ⟨rfl, rfl⟩))
  all_goals go_wp2_with fail
  go_region_held3 (fun W => W.cell? ⟨w.heap.size, 0, none⟩ = some (.int .i64 x) ∧ W.cell? ⟨w.heap.size, 1, none⟩ = some (.int .i64 y)) (first | (go_keep; done) | (simp (maxDischargeDepth := 9) [*, World.cell?_alloc_some, World.cell?_setCell_far]; done) | (simp (maxDischargeDepth := 9) [go_sem, *]; done)) (first | (go_at_call 29; (first | with_reducible refine (cos_w c c_0 c_1 _).mono ?_); rintro e w' ⟨rfl, hk⟩; have hz := hk.size; (try (refine kuse (b := w.heap.size) hk (by first | (simp; done) | (simp; omega) | omega) ?_; intro hq0 hg0; have hy0 : w.heap.size < w'.heap.size := (by (try simp at hz); omega); have hn0 : ¬ w.heap.size = w'.heap.size := (by omega); have hm0 : ¬ w.heap.size = w'.heap.size + 1 := (by omega); refine withF (p := w'.cell? ⟨w.heap.size, 0, none⟩ = some (.int .i64 x)) (by first | (rw [hq0]; with_reducible assumption) | (simp (maxDischargeDepth := 7) [go_sem, hq0]; done) | (simp (maxDischargeDepth := 7) [go_sem, hq0, *]; done) | fail) ?_; intro ff00; refine withF (p := w'.cell? ⟨w.heap.size, 1, none⟩ = some (.int .i64 y)) (by first | (rw [hq0]; with_reducible assumption) | (simp (maxDischargeDepth := 7) [go_sem, hq0]; done) | (simp (maxDischargeDepth := 7) [go_sem, hq0, *]; done) | fail) ?_; intro ff01))) | (go_at_call 30; with_reducible refine (U2 _).mono ?_; rintro e w' ⟨rfl, rfl⟩))
  all_goals go_wp2_with fail
  with_reducible refine (HH _).mono ?_
  rintro e w' ⟨rfl, rfl⟩
  go_wp2_with fail
  with_reducible refine (HT _).mono ?_
  rintro e w3 ⟨rfl, hk3⟩
  refine kuse (b := w.heap.size) hk3 (by first | (simp; done) | (simp; omega) | omega) ?_
  intro ha hb
  have hz3_0 : w.heap.size < w3.heap.size := by have := hk3.size; (try simp at this); omega
  have hn3_0 : ¬ w.heap.size = w3.heap.size := by omega
  have hm3_0 : ¬ w3.heap.size = w.heap.size := by omega
  have hf3_0_0 : w3.cell? ⟨w.heap.size, 0, none⟩ = some (.int .i64 x) := by first | (rw [ha]; with_reducible assumption) | (simp (maxDischargeDepth := 7) [go_sem, ha]; done) | (rw [ha]; assumption) | (simp (maxDischargeDepth := 7) [go_sem, ha, *]; done)
  have hf3_0_1 : w3.cell? ⟨w.heap.size, 1, none⟩ = some (.int .i64 y) := by first | (rw [ha]; with_reducible assumption) | (simp (maxDischargeDepth := 7) [go_sem, ha]; done) | (rw [ha]; assumption) | (simp (maxDischargeDepth := 7) [go_sem, ha, *]; done)
  try have hg3_0 : ∀ o, w3.frozen? ⟨w.heap.size, o, none⟩ = false := by intro o; first | (simp (maxDischargeDepth := 7) [go_sem, hb]; done) | (rw [hb]; simp (maxDischargeDepth := 7) [go_sem, *]; done)
  clear ha hb
  try clear hf1_0_0
  try clear hf1_0_1
  try clear hg1_0
  go_wp2_with fail
  all_goals go_ret3
  all_goals exact ⟨rfl, (by repeat (first | with_reducible exact Kept.refl _ | with_reducible assumption | with_reducible refine Kept.setCell ?_ (by first | (simp; done) | (simp; omega) | omega) _ | with_reducible refine Kept.alloc ?_ _ | with_reducible refine Kept.drewN ?_ _ | with_reducible refine Kept.drew ?_ | with_reducible refine Kept.trans ?_ (by with_reducible assumption) | with_reducible refine Kept.dr ?_ (by with_reducible assumption)))⟩
set_option maxHeartbeats 2000000 in
set_option maxRecDepth 100000 in
theorem track_w (c t x y : Int) (c_0 : -9223372036854775808 ≤ c) (c_1 : c ≤ 9223372036854775807) (t_0 : -9223372036854775808 ≤ t) (t_1 : t ≤ 9223372036854775807) (w : World) : Calls Tryz.prog 17 #[.int .i64 c, .int .i64 t, .agg #[.int .i64 x, .int .i64 y]] w fun e w' => e = .returned (.tuple #[.int .i64 (kC c t x y), .int .i64 (kG c t x y), .int .i64 (kE c t x y)]) ∧ Kept w w' := by
  by_cases h : wok x y = false ∨ t < 1 ∨ 4000 < t
  · obtain ⟨e1, e2, e3⟩ := kE_arg (h := c) h
    rw [e1, e2, e3]
    cases hw : wok x y with
    | false => exact tk_arg c t x y c_0 c_1 t_0 t_1 hw w
    | true =>
      obtain ⟨h0, h1, h2, h3⟩ := wok_yes hw
      rw [hw] at h
      exact tk_tas c t x y c_0 c_1 t_0 t_1 h0 h1 h2 h3 (by simpa using h) w
  · have hw : wok x y = true := by cases e : wok x y with | true => rfl | false => exact absurd (Or.inl e) h
    obtain ⟨h0, h1, h2, h3⟩ := wok_yes hw
    by_cases l : hyV (tkX c t x) (tkY c t y) < 1024
    · obtain ⟨e1, e2, e3⟩ := kE_g h l
      rw [e1, e2, e3]
      exact tk_g c t x y c_0 c_1 h0 h1 h2 h3 (by omega) (by omega) l w
    · obtain ⟨e1, e2, e3⟩ := kE_ok h l
      rw [e1, e2, e3]
      exact tk_ok c t x y c_0 c_1 h0 h1 h2 h3 (by omega) (by omega) l w
set_option maxHeartbeats 2000000 in
set_option maxRecDepth 100000 in
theorem of_arg (c s : Int) (c_0 : -9223372036854775808 ≤ c) (c_1 : c ≤ 9223372036854775807) (s_0 : -9223372036854775808 ≤ s) (s_1 : s ≤ 9223372036854775807) (h : s < 0 ∨ 400 < s) (w : World) : Calls Tryz.prog 11 #[.int .i64 c, .int .i64 s] w fun e w' => e = .returned (.tuple #[.agg #[.int .i64 (0), .int .i64 (0)], .int .i64 1]) ∧ Kept w w' := by
  rcases h with h | h
  all_goals
    go_enter Tryz.func11, Tryz.ntmps11
    go_wp2_with fail
    all_goals exact bodyPost_ret (v := .tuple #[.agg #[.int .i64 (0), .int .i64 (0)], .int .i64 1]) (by first | (simp [results, Tryz.results11, go_sem]; done) | (simp (maxDischargeDepth := 7) [results, Tryz.results11, go_sem, *]; done)) rfl ⟨rfl, (by repeat (first | with_reducible exact Kept.refl _ | with_reducible assumption | with_reducible refine Kept.setCell ?_ (by first | (simp; done) | (simp; omega) | omega) _ | with_reducible refine Kept.alloc ?_ _ | with_reducible refine Kept.drewN ?_ _ | with_reducible refine Kept.drew ?_ | with_reducible refine Kept.trans ?_ (by with_reducible assumption) | with_reducible refine Kept.dr ?_ (by with_reducible assumption)))⟩
set_option maxHeartbeats 2000000 in
set_option maxRecDepth 100000 in
theorem of_yes (c s : Int) (c_0 : -9223372036854775808 ≤ c) (c_1 : c ≤ 9223372036854775807) (s0 : 0 ≤ s) (s1 : s ≤ 400) (w : World) : Calls Tryz.prog 11 #[.int .i64 c, .int .i64 s] w fun e w' => e = .returned (.tuple #[.agg #[.int .i64 (r30 (-s * sinV c)), .int .i64 (r30 (-s * cosV c))], .int .i64 0]) ∧ Kept w w' := by
  obtain ⟨⟨p0, p1⟩, p2, p3⟩ := wprod4 (-s) c (by omega) (by omega)
  have wr0 : IntKind.i64.wrap (-s) = -s := IntWalk.i64_in _ (by omega)
  have wr1 : IntKind.i64.wrap (-s * sinV c) = -s * sinV c := IntWalk.i64_in _ (by omega)
  have wr2 : IntKind.i64.wrap (-s * cosV c) = -s * cosV c := IntWalk.i64_in _ (by omega)
  obtain ⟨m1, m2⟩ := mq_scale' (-s * sinV c) (by omega) (by omega)
  obtain ⟨n1, n2⟩ := mq_scale' (-s * cosV c) (by omega) (by omega)
  have U1 := fun W => wrnd_w (-s * sinV c) (by omega) (by omega) W
  have U2 := fun W => wrnd_w (-s * cosV c) (by omega) (by omega) W
  rw [m1, m2] at U1
  rw [n1, n2] at U2
  obtain ⟨X, qX⟩ : ∃ X, r30 (-s * sinV c) = X := ⟨_, rfl⟩
  obtain ⟨Y, qY⟩ : ∃ Y, r30 (-s * cosV c) = Y := ⟨_, rfl⟩
  rw [qX] at U1
  rw [qY] at U2
  rw [qX, qY]
  clear qX qY
  go_enter Tryz.func11, Tryz.ntmps11
  go_wp2_with fail
  with_reducible refine (sin_w c c_0 c_1 _).mono ?_
  rintro e w1 ⟨rfl, hk1⟩
  refine kuse (b := w.heap.size) hk1 (by first | (simp; done) | (simp; omega) | omega) ?_
  intro ha hb
  have hz1_0 : w.heap.size < w1.heap.size := by have := hk1.size; (try simp at this); omega
  have hn1_0 : ¬ w.heap.size = w1.heap.size := by omega
  have hm1_0 : ¬ w1.heap.size = w.heap.size := by omega
  have hf1_0_0 : w1.cell? ⟨w.heap.size, 0, none⟩ = some (.int .i64 0) := by first | (rw [ha]; with_reducible assumption) | (simp (maxDischargeDepth := 7) [go_sem, ha]; done) | (rw [ha]; assumption) | (simp (maxDischargeDepth := 7) [go_sem, ha, *]; done)
  have hf1_0_1 : w1.cell? ⟨w.heap.size, 1, none⟩ = some (.int .i64 0) := by first | (rw [ha]; with_reducible assumption) | (simp (maxDischargeDepth := 7) [go_sem, ha]; done) | (rw [ha]; assumption) | (simp (maxDischargeDepth := 7) [go_sem, ha, *]; done)
  try have hg1_0 : ∀ o, w1.frozen? ⟨w.heap.size, o, none⟩ = false := by intro o; first | (simp (maxDischargeDepth := 7) [go_sem, hb]; done) | (rw [hb]; simp (maxDischargeDepth := 7) [go_sem, *]; done)
  clear ha hb
  go_wp2_with fail
  with_reducible refine (U1 _).mono ?_
  rintro e w2 ⟨rfl, hk2⟩
  refine kuse (b := w.heap.size) hk2 (by first | (simp; done) | (simp; omega) | omega) ?_
  intro ha hb
  have hz2_0 : w.heap.size < w2.heap.size := by have := hk2.size; (try simp at this); omega
  have hn2_0 : ¬ w.heap.size = w2.heap.size := by omega
  have hm2_0 : ¬ w2.heap.size = w.heap.size := by omega
  have hf2_0_0 : w2.cell? ⟨w.heap.size, 0, none⟩ = some (.int .i64 0) := by first | (rw [ha]; with_reducible assumption) | (simp (maxDischargeDepth := 7) [go_sem, ha]; done) | (rw [ha]; assumption) | (simp (maxDischargeDepth := 7) [go_sem, ha, *]; done)
  have hf2_0_1 : w2.cell? ⟨w.heap.size, 1, none⟩ = some (.int .i64 0) := by first | (rw [ha]; with_reducible assumption) | (simp (maxDischargeDepth := 7) [go_sem, ha]; done) | (rw [ha]; assumption) | (simp (maxDischargeDepth := 7) [go_sem, ha, *]; done)
  try have hg2_0 : ∀ o, w2.frozen? ⟨w.heap.size, o, none⟩ = false := by intro o; first | (simp (maxDischargeDepth := 7) [go_sem, hb]; done) | (rw [hb]; simp (maxDischargeDepth := 7) [go_sem, *]; done)
  clear ha hb
  try clear hf1_0_0
  try clear hf1_0_1
  try clear hg1_0
  go_wp2_with fail
  with_reducible refine (cos_w c c_0 c_1 _).mono ?_
  rintro e w3 ⟨rfl, hk3⟩
  refine kuse (b := w.heap.size) hk3 (by first | (simp; done) | (simp; omega) | omega) ?_
  intro ha hb
  have hz3_0 : w.heap.size < w3.heap.size := by have := hk3.size; (try simp at this); omega
  have hn3_0 : ¬ w.heap.size = w3.heap.size := by omega
  have hm3_0 : ¬ w3.heap.size = w.heap.size := by omega
  have hf3_0_0 : w3.cell? ⟨w.heap.size, 0, none⟩ = some (.int .i64 0) := by first | (rw [ha]; with_reducible assumption) | (simp (maxDischargeDepth := 7) [go_sem, ha]; done) | (rw [ha]; assumption) | (simp (maxDischargeDepth := 7) [go_sem, ha, *]; done)
  have hf3_0_1 : w3.cell? ⟨w.heap.size, 1, none⟩ = some (.int .i64 0) := by first | (rw [ha]; with_reducible assumption) | (simp (maxDischargeDepth := 7) [go_sem, ha]; done) | (rw [ha]; assumption) | (simp (maxDischargeDepth := 7) [go_sem, ha, *]; done)
  try have hg3_0 : ∀ o, w3.frozen? ⟨w.heap.size, o, none⟩ = false := by intro o; first | (simp (maxDischargeDepth := 7) [go_sem, hb]; done) | (rw [hb]; simp (maxDischargeDepth := 7) [go_sem, *]; done)
  clear ha hb
  try clear hf2_0_0
  try clear hf2_0_1
  try clear hg2_0
  go_wp2_with fail
  with_reducible refine (U2 _).mono ?_
  rintro e w4 ⟨rfl, hk4⟩
  refine kuse (b := w.heap.size) hk4 (by first | (simp; done) | (simp; omega) | omega) ?_
  intro ha hb
  have hz4_0 : w.heap.size < w4.heap.size := by have := hk4.size; (try simp at this); omega
  have hn4_0 : ¬ w.heap.size = w4.heap.size := by omega
  have hm4_0 : ¬ w4.heap.size = w.heap.size := by omega
  have hf4_0_0 : w4.cell? ⟨w.heap.size, 0, none⟩ = some (.int .i64 0) := by first | (rw [ha]; with_reducible assumption) | (simp (maxDischargeDepth := 7) [go_sem, ha]; done) | (rw [ha]; assumption) | (simp (maxDischargeDepth := 7) [go_sem, ha, *]; done)
  have hf4_0_1 : w4.cell? ⟨w.heap.size, 1, none⟩ = some (.int .i64 0) := by first | (rw [ha]; with_reducible assumption) | (simp (maxDischargeDepth := 7) [go_sem, ha]; done) | (rw [ha]; assumption) | (simp (maxDischargeDepth := 7) [go_sem, ha, *]; done)
  try have hg4_0 : ∀ o, w4.frozen? ⟨w.heap.size, o, none⟩ = false := by intro o; first | (simp (maxDischargeDepth := 7) [go_sem, hb]; done) | (rw [hb]; simp (maxDischargeDepth := 7) [go_sem, *]; done)
  clear ha hb
  try clear hf3_0_0
  try clear hf3_0_1
  try clear hg3_0
  go_wp2_with fail
  all_goals exact bodyPost_ret (v := .tuple #[.agg #[.int .i64 (X), .int .i64 (Y)], .int .i64 0]) (by first | (simp [results, Tryz.results11, go_sem]; done) | (simp (maxDischargeDepth := 7) [results, Tryz.results11, go_sem, *]; done)) rfl ⟨rfl, (by repeat (first | with_reducible exact Kept.refl _ | with_reducible assumption | with_reducible refine Kept.setCell ?_ (by first | (simp; done) | (simp; omega) | omega) _ | with_reducible refine Kept.alloc ?_ _ | with_reducible refine Kept.drewN ?_ _ | with_reducible refine Kept.drew ?_ | with_reducible refine Kept.trans ?_ (by with_reducible assumption) | with_reducible refine Kept.dr ?_ (by with_reducible assumption)))⟩
set_option maxHeartbeats 2000000 in
set_option maxRecDepth 100000 in
theorem of_w (c s : Int) (c_0 : -9223372036854775808 ≤ c) (c_1 : c ≤ 9223372036854775807) (s_0 : -9223372036854775808 ≤ s) (s_1 : s ≤ 9223372036854775807) (w : World) : Calls Tryz.prog 11 #[.int .i64 c, .int .i64 s] w fun e w' => e = .returned (.tuple #[.agg #[.int .i64 (ofX c s), .int .i64 (ofY c s)], .int .i64 (ofE s)]) ∧ Kept w w' := by
  by_cases h : s < 0 ∨ 400 < s
  · obtain ⟨e1, e2, e3⟩ := of_no (f := c) h
    rw [e1, e2, e3]
    exact of_arg c s c_0 c_1 s_0 s_1 h w
  · obtain ⟨e1, e2, e3⟩ := of_ok' (f := c) h
    rw [e1, e2, e3]
    exact of_yes c s c_0 c_1 (by omega) (by omega) w
set_option maxHeartbeats 2000000 in
set_option maxRecDepth 100000 in
theorem fr_arg (x y : Int) (h : wok x y = false) (w : World) : Calls Tryz.prog 13 #[.agg #[.int .i64 x, .int .i64 y]] w fun e w' => e = .returned (.tuple #[.int .i64 0, .int .i64 0, .int .i64 1]) ∧ Kept w w' := by
  have HV := fun W => wvalid_w x y W
  rw [h] at HV
  go_enter Tryz.func13, Tryz.ntmps13
  go_wp2_with fail
  with_reducible refine (HV _).mono ?_
  rintro e w1 ⟨rfl, hk1⟩
  refine kuse (b := w.heap.size) hk1 (by first | (simp; done) | (simp; omega) | omega) ?_
  intro ha hb
  have hz1_0 : w.heap.size < w1.heap.size := by have := hk1.size; (try simp at this); omega
  have hn1_0 : ¬ w.heap.size = w1.heap.size := by omega
  have hm1_0 : ¬ w1.heap.size = w.heap.size := by omega
  have hf1_0_0 : w1.cell? ⟨w.heap.size, 0, none⟩ = some (.int .i64 x) := by first | (rw [ha]; with_reducible assumption) | (simp (maxDischargeDepth := 7) [go_sem, ha]; done) | (rw [ha]; assumption) | (simp (maxDischargeDepth := 7) [go_sem, ha, *]; done)
  have hf1_0_1 : w1.cell? ⟨w.heap.size, 1, none⟩ = some (.int .i64 y) := by first | (rw [ha]; with_reducible assumption) | (simp (maxDischargeDepth := 7) [go_sem, ha]; done) | (rw [ha]; assumption) | (simp (maxDischargeDepth := 7) [go_sem, ha, *]; done)
  try have hg1_0 : ∀ o, w1.frozen? ⟨w.heap.size, o, none⟩ = false := by intro o; first | (simp (maxDischargeDepth := 7) [go_sem, hb]; done) | (rw [hb]; simp (maxDischargeDepth := 7) [go_sem, *]; done)
  clear ha hb
  go_wp2_with fail
  all_goals go_ret3
  all_goals exact ⟨rfl, (by repeat (first | with_reducible exact Kept.refl _ | with_reducible assumption | with_reducible refine Kept.setCell ?_ (by first | (simp; done) | (simp; omega) | omega) _ | with_reducible refine Kept.alloc ?_ _ | with_reducible refine Kept.drewN ?_ _ | with_reducible refine Kept.drew ?_ | with_reducible refine Kept.trans ?_ (by with_reducible assumption) | with_reducible refine Kept.dr ?_ (by with_reducible assumption)))⟩
set_option maxHeartbeats 2000000 in
set_option maxRecDepth 100000 in
theorem fr_ok (x y : Int) (h0 : -400 ≤ x) (h1 : x ≤ 400) (h2 : -400 ≤ y) (h3 : y ≤ 400) (w : World) : Calls Tryz.prog 13 #[.agg #[.int .i64 x, .int .i64 y]] w fun e w' => e = .returned (.tuple #[.int .i64 (at2V (-x) (-y)), .int .i64 (hyV x y), .int .i64 0]) ∧ Kept w w' := by
  have HV := fun W => wvalid_w x y W
  rw [wok_is h0 h1 h2 h3] at HV
  have wr0 : IntKind.i64.wrap (-x) = -x := IntWalk.i64_in _ (by omega)
  have wr1 : IntKind.i64.wrap (-y) = -y := IntWalk.i64_in _ (by omega)
  have HT := atan2_w (-x) (-y) (by omega) (by omega) (by omega) (by omega)
  have HH := hypot_w x y (by omega) (by omega) (by omega) (by omega)
  go_enter Tryz.func13, Tryz.ntmps13
  go_wp2_with fail
  with_reducible refine (HV _).mono ?_
  rintro e w1 ⟨rfl, hk1⟩
  refine kuse (b := w.heap.size) hk1 (by first | (simp; done) | (simp; omega) | omega) ?_
  intro ha hb
  have hz1_0 : w.heap.size < w1.heap.size := by have := hk1.size; (try simp at this); omega
  have hn1_0 : ¬ w.heap.size = w1.heap.size := by omega
  have hm1_0 : ¬ w1.heap.size = w.heap.size := by omega
  have hf1_0_0 : w1.cell? ⟨w.heap.size, 0, none⟩ = some (.int .i64 x) := by first | (rw [ha]; with_reducible assumption) | (simp (maxDischargeDepth := 7) [go_sem, ha]; done) | (rw [ha]; assumption) | (simp (maxDischargeDepth := 7) [go_sem, ha, *]; done)
  have hf1_0_1 : w1.cell? ⟨w.heap.size, 1, none⟩ = some (.int .i64 y) := by first | (rw [ha]; with_reducible assumption) | (simp (maxDischargeDepth := 7) [go_sem, ha]; done) | (rw [ha]; assumption) | (simp (maxDischargeDepth := 7) [go_sem, ha, *]; done)
  try have hg1_0 : ∀ o, w1.frozen? ⟨w.heap.size, o, none⟩ = false := by intro o; first | (simp (maxDischargeDepth := 7) [go_sem, hb]; done) | (rw [hb]; simp (maxDischargeDepth := 7) [go_sem, *]; done)
  clear ha hb
  go_wp2_with fail
  with_reducible refine (HT _).mono ?_
  rintro e w2 ⟨rfl, hk2⟩
  refine kuse (b := w.heap.size) hk2 (by first | (simp; done) | (simp; omega) | omega) ?_
  intro ha hb
  have hz2_0 : w.heap.size < w2.heap.size := by have := hk2.size; (try simp at this); omega
  have hn2_0 : ¬ w.heap.size = w2.heap.size := by omega
  have hm2_0 : ¬ w2.heap.size = w.heap.size := by omega
  have hf2_0_0 : w2.cell? ⟨w.heap.size, 0, none⟩ = some (.int .i64 x) := by first | (rw [ha]; with_reducible assumption) | (simp (maxDischargeDepth := 7) [go_sem, ha]; done) | (rw [ha]; assumption) | (simp (maxDischargeDepth := 7) [go_sem, ha, *]; done)
  have hf2_0_1 : w2.cell? ⟨w.heap.size, 1, none⟩ = some (.int .i64 y) := by first | (rw [ha]; with_reducible assumption) | (simp (maxDischargeDepth := 7) [go_sem, ha]; done) | (rw [ha]; assumption) | (simp (maxDischargeDepth := 7) [go_sem, ha, *]; done)
  try have hg2_0 : ∀ o, w2.frozen? ⟨w.heap.size, o, none⟩ = false := by intro o; first | (simp (maxDischargeDepth := 7) [go_sem, hb]; done) | (rw [hb]; simp (maxDischargeDepth := 7) [go_sem, *]; done)
  clear ha hb
  try clear hf1_0_0
  try clear hf1_0_1
  try clear hg1_0
  go_wp2_with fail
  with_reducible refine (HH _).mono ?_
  rintro e w' ⟨rfl, rfl⟩
  go_wp2_with fail
  all_goals go_ret3
  all_goals exact ⟨rfl, (by repeat (first | with_reducible exact Kept.refl _ | with_reducible assumption | with_reducible refine Kept.setCell ?_ (by first | (simp; done) | (simp; omega) | omega) _ | with_reducible refine Kept.alloc ?_ _ | with_reducible refine Kept.drewN ?_ _ | with_reducible refine Kept.drew ?_ | with_reducible refine Kept.trans ?_ (by with_reducible assumption) | with_reducible refine Kept.dr ?_ (by with_reducible assumption)))⟩
set_option maxHeartbeats 2000000 in
set_option maxRecDepth 100000 in
theorem from_w (x y : Int) (w : World) : Calls Tryz.prog 13 #[.agg #[.int .i64 x, .int .i64 y]] w fun e w' => e = .returned (.tuple #[.int .i64 (fA1 x y), .int .i64 (fS1 x y), .int .i64 (pE x y)]) ∧ Kept w w' := by
  cases h : wok x y with
  | false =>
    obtain ⟨e1, e2, e3⟩ := p_no h
    rw [e1, e2, e3]
    exact fr_arg x y h w
  | true =>
    obtain ⟨e1, e2, e3⟩ := p_ok h
    obtain ⟨h0, h1, h2, h3⟩ := wok_yes h
    rw [e1, e2, e3]
    exact fr_ok x y h0 h1 h2 h3 w
set_option maxHeartbeats 2000000 in
set_option maxRecDepth 100000 in
theorem ref_tk_arg (c t x y : Int) (c_0 : -9223372036854775808 ≤ c) (c_1 : c ≤ 9223372036854775807) (t_0 : -9223372036854775808 ≤ t) (t_1 : t ≤ 9223372036854775807) (h : wok x y = false) (w : World) : Calls Tryz.prog 18 #[.int .i64 c, .int .i64 t, .agg #[.int .i64 x, .int .i64 y]] w fun e w' => e = .returned (.tuple #[.int .i64 0, .int .i64 0, .int .i64 1]) ∧ Kept w w' := by
  have HV := fun W => ref_wvalid_w x y W
  rw [h] at HV
  go_enter Tryz.func18, Tryz.ntmps18
  go_wp2_with fail
  with_reducible refine (HV _).mono ?_
  rintro e w1 ⟨rfl, hk1⟩
  refine kuse (b := w.heap.size) hk1 (by first | (simp; done) | (simp; omega) | omega) ?_
  intro ha hb
  have hz1_0 : w.heap.size < w1.heap.size := by have := hk1.size; (try simp at this); omega
  have hn1_0 : ¬ w.heap.size = w1.heap.size := by omega
  have hm1_0 : ¬ w1.heap.size = w.heap.size := by omega
  have hf1_0_0 : w1.cell? ⟨w.heap.size, 0, none⟩ = some (.int .i64 x) := by first | (rw [ha]; with_reducible assumption) | (simp (maxDischargeDepth := 7) [go_sem, ha]; done) | (rw [ha]; assumption) | (simp (maxDischargeDepth := 7) [go_sem, ha, *]; done)
  have hf1_0_1 : w1.cell? ⟨w.heap.size, 1, none⟩ = some (.int .i64 y) := by first | (rw [ha]; with_reducible assumption) | (simp (maxDischargeDepth := 7) [go_sem, ha]; done) | (rw [ha]; assumption) | (simp (maxDischargeDepth := 7) [go_sem, ha, *]; done)
  try have hg1_0 : ∀ o, w1.frozen? ⟨w.heap.size, o, none⟩ = false := by intro o; first | (simp (maxDischargeDepth := 7) [go_sem, hb]; done) | (rw [hb]; simp (maxDischargeDepth := 7) [go_sem, *]; done)
  clear ha hb
  go_wp2_with fail
  all_goals go_ret3
  all_goals exact ⟨rfl, (by repeat (first | with_reducible exact Kept.refl _ | with_reducible assumption | with_reducible refine Kept.setCell ?_ (by first | (simp; done) | (simp; omega) | omega) _ | with_reducible refine Kept.alloc ?_ _ | with_reducible refine Kept.drewN ?_ _ | with_reducible refine Kept.drew ?_ | with_reducible refine Kept.trans ?_ (by with_reducible assumption) | with_reducible refine Kept.dr ?_ (by with_reducible assumption)))⟩
set_option maxHeartbeats 2000000 in
set_option maxRecDepth 100000 in
theorem ref_tk_tas (c t x y : Int) (c_0 : -9223372036854775808 ≤ c) (c_1 : c ≤ 9223372036854775807) (t_0 : -9223372036854775808 ≤ t) (t_1 : t ≤ 9223372036854775807) (h0 : -400 ≤ x) (h1 : x ≤ 400) (h2 : -400 ≤ y) (h3 : y ≤ 400) (h : t < 1 ∨ 4000 < t) (w : World) : Calls Tryz.prog 18 #[.int .i64 c, .int .i64 t, .agg #[.int .i64 x, .int .i64 y]] w fun e w' => e = .returned (.tuple #[.int .i64 0, .int .i64 0, .int .i64 1]) ∧ Kept w w' := by
  rcases h with h | h
  all_goals
    have HV := fun W => ref_wvalid_w x y W
    rw [wok_is h0 h1 h2 h3] at HV
    go_enter Tryz.func18, Tryz.ntmps18
    go_wp2_with fail
    with_reducible refine (HV _).mono ?_
    rintro e w1 ⟨rfl, hk1⟩
    refine kuse (b := w.heap.size) hk1 (by first | (simp; done) | (simp; omega) | omega) ?_
    intro ha hb
    have hz1_0 : w.heap.size < w1.heap.size := by have := hk1.size; (try simp at this); omega
    have hn1_0 : ¬ w.heap.size = w1.heap.size := by omega
    have hm1_0 : ¬ w1.heap.size = w.heap.size := by omega
    have hf1_0_0 : w1.cell? ⟨w.heap.size, 0, none⟩ = some (.int .i64 x) := by first | (rw [ha]; with_reducible assumption) | (simp (maxDischargeDepth := 7) [go_sem, ha]; done) | (rw [ha]; assumption) | (simp (maxDischargeDepth := 7) [go_sem, ha, *]; done)
    have hf1_0_1 : w1.cell? ⟨w.heap.size, 1, none⟩ = some (.int .i64 y) := by first | (rw [ha]; with_reducible assumption) | (simp (maxDischargeDepth := 7) [go_sem, ha]; done) | (rw [ha]; assumption) | (simp (maxDischargeDepth := 7) [go_sem, ha, *]; done)
    try have hg1_0 : ∀ o, w1.frozen? ⟨w.heap.size, o, none⟩ = false := by intro o; first | (simp (maxDischargeDepth := 7) [go_sem, hb]; done) | (rw [hb]; simp (maxDischargeDepth := 7) [go_sem, *]; done)
    clear ha hb
    go_wp2_with fail
    all_goals go_ret3
    all_goals exact ⟨rfl, (by repeat (first | with_reducible exact Kept.refl _ | with_reducible assumption | with_reducible refine Kept.setCell ?_ (by first | (simp; done) | (simp; omega) | omega) _ | with_reducible refine Kept.alloc ?_ _ | with_reducible refine Kept.drewN ?_ _ | with_reducible refine Kept.drew ?_ | with_reducible refine Kept.trans ?_ (by with_reducible assumption) | with_reducible refine Kept.dr ?_ (by with_reducible assumption)))⟩
set_option maxHeartbeats 2000000 in
set_option maxRecDepth 100000 in
theorem ref_tk_g (c t x y : Int) (c_0 : -9223372036854775808 ≤ c) (c_1 : c ≤ 9223372036854775807) (h0 : -400 ≤ x) (h1 : x ≤ 400) (h2 : -400 ≤ y) (h3 : y ≤ 400) (t0 : 1 ≤ t) (t1 : t ≤ 4000) (l : hyV (tkX c t x) (tkY c t y) < 1024) (w : World) : Calls Tryz.prog 18 #[.int .i64 c, .int .i64 t, .agg #[.int .i64 x, .int .i64 y]] w fun e w' => e = .returned (.tuple #[.int .i64 0, .int .i64 0, .int .i64 10]) ∧ Kept w w' := by
  obtain ⟨⟨p0, p1⟩, p2, p3⟩ := wprod t c (by omega) t1
  have HV := fun W => ref_wvalid_w x y W
  rw [wok_is h0 h1 h2 h3] at HV
  have wr0 : IntKind.i64.wrap (t * sinV c) = t * sinV c := IntWalk.i64_in _ (by omega)
  have wr1 : IntKind.i64.wrap (t * cosV c) = t * cosV c := IntWalk.i64_in _ (by omega)
  have wr2 : IntKind.i64.wrap (x * 1073741824) = x * 1073741824 := IntWalk.i64_in _ (by omega)
  have wr3 : IntKind.i64.wrap (y * 1073741824) = y * 1073741824 := IntWalk.i64_in _ (by omega)
  have wr4 : IntKind.i64.wrap (t * sinV c + x * 1073741824) = t * sinV c + x * 1073741824 := IntWalk.i64_in _ (by omega)
  have wr5 : IntKind.i64.wrap (t * cosV c + y * 1073741824) = t * cosV c + y * 1073741824 := IntWalk.i64_in _ (by omega)
  obtain ⟨⟨k0, k1⟩, _⟩ := tk_bd c t t0 t1 h0 h1
  obtain ⟨_, k2, k3⟩ := tk_bd c t t0 t1 h2 h3
  have U1 := ref_round20 (t * sinV c + x * 1073741824) (by omega) (by omega)
  have U2 := ref_round20 (t * cosV c + y * 1073741824) (by omega) (by omega)
  obtain ⟨X, qX⟩ : ∃ X, tkX c t x = X := ⟨_, rfl⟩
  obtain ⟨Y, qY⟩ : ∃ Y, tkY c t y = Y := ⟨_, rfl⟩
  rw [show unt (t * sinV c + x * 1073741824) = X from qX] at U1
  rw [show unt (t * cosV c + y * 1073741824) = Y from qY] at U2
  rw [qX] at k0 k1
  rw [qY] at k2 k3
  obtain ⟨g0, g1⟩ := hyV_bd X Y k0 k1 k2 k3
  have HH := ref_hypot_w X Y (by omega) (by omega) (by omega) (by omega)
  have HT := ref_atan2_w X Y (by omega) (by omega) (by omega) (by omega)
  rw [qX, qY] at l
  clear qX qY
  obtain ⟨G, qG⟩ : ∃ G, hyV X Y = G := ⟨_, rfl⟩
  rw [qG] at l g0 g1 HH
  clear qG
  go_enter Tryz.func18, Tryz.ntmps18
  go_wp2_with fail
  with_reducible refine (HV _).mono ?_
  rintro e w1 ⟨rfl, hk1⟩
  refine kuse (b := w.heap.size) hk1 (by first | (simp; done) | (simp; omega) | omega) ?_
  intro ha hb
  have hz1_0 : w.heap.size < w1.heap.size := by have := hk1.size; (try simp at this); omega
  have hn1_0 : ¬ w.heap.size = w1.heap.size := by omega
  have hm1_0 : ¬ w1.heap.size = w.heap.size := by omega
  have hf1_0_0 : w1.cell? ⟨w.heap.size, 0, none⟩ = some (.int .i64 x) := by first | (rw [ha]; with_reducible assumption) | (simp (maxDischargeDepth := 7) [go_sem, ha]; done) | (rw [ha]; assumption) | (simp (maxDischargeDepth := 7) [go_sem, ha, *]; done)
  have hf1_0_1 : w1.cell? ⟨w.heap.size, 1, none⟩ = some (.int .i64 y) := by first | (rw [ha]; with_reducible assumption) | (simp (maxDischargeDepth := 7) [go_sem, ha]; done) | (rw [ha]; assumption) | (simp (maxDischargeDepth := 7) [go_sem, ha, *]; done)
  try have hg1_0 : ∀ o, w1.frozen? ⟨w.heap.size, o, none⟩ = false := by intro o; first | (simp (maxDischargeDepth := 7) [go_sem, hb]; done) | (rw [hb]; simp (maxDischargeDepth := 7) [go_sem, *]; done)
  clear ha hb
  go_wp2_with fail
  go_region_held3 (fun W => W.cell? ⟨w.heap.size, 0, none⟩ = some (.int .i64 x) ∧ W.cell? ⟨w.heap.size, 1, none⟩ = some (.int .i64 y)) (first | (go_keep; done) | (simp (maxDischargeDepth := 9) [*, World.cell?_alloc_some, World.cell?_setCell_far]; done) | (simp (maxDischargeDepth := 9) [go_sem, *]; done)) (first | (go_at_call 34; with_reducible refine (ref_sin_w c c_0 c_1 _).mono ?_; rintro e w' ⟨rfl, rfl⟩) | (go_at_call 33; with_reducible refine (U1 _).mono ?_; rintro e w' ⟨rfl, rfl⟩))
  all_goals go_wp2_with fail
  go_region_held3 (fun W => W.cell? ⟨w.heap.size, 0, none⟩ = some (.int .i64 x) ∧ W.cell? ⟨w.heap.size, 1, none⟩ = some (.int .i64 y)) (first | (go_keep; done) | (simp (maxDischargeDepth := 9) [*, World.cell?_alloc_some, World.cell?_setCell_far]; done) | (simp (maxDischargeDepth := 9) [go_sem, *]; done)) (first | (go_at_call 35; with_reducible refine (ref_cos_w c c_0 c_1 _).mono ?_; rintro e w' ⟨rfl, rfl⟩) | (go_at_call 33; with_reducible refine (U2 _).mono ?_; rintro e w' ⟨rfl, rfl⟩))
  all_goals go_wp2_with fail
  with_reducible refine (HH _).mono ?_
  rintro e w' ⟨rfl, rfl⟩
  go_wp2_with fail
  all_goals go_ret3
  all_goals exact ⟨rfl, (by repeat (first | with_reducible exact Kept.refl _ | with_reducible assumption | with_reducible refine Kept.setCell ?_ (by first | (simp; done) | (simp; omega) | omega) _ | with_reducible refine Kept.alloc ?_ _ | with_reducible refine Kept.drewN ?_ _ | with_reducible refine Kept.drew ?_ | with_reducible refine Kept.trans ?_ (by with_reducible assumption) | with_reducible refine Kept.dr ?_ (by with_reducible assumption)))⟩
set_option maxHeartbeats 2000000 in
set_option maxRecDepth 100000 in
theorem ref_tk_ok (c t x y : Int) (c_0 : -9223372036854775808 ≤ c) (c_1 : c ≤ 9223372036854775807) (h0 : -400 ≤ x) (h1 : x ≤ 400) (h2 : -400 ≤ y) (h3 : y ≤ 400) (t0 : 1 ≤ t) (t1 : t ≤ 4000) (l : ¬ hyV (tkX c t x) (tkY c t y) < 1024) (w : World) : Calls Tryz.prog 18 #[.int .i64 c, .int .i64 t, .agg #[.int .i64 x, .int .i64 y]] w fun e w' => e = .returned (.tuple #[.int .i64 (at2V (tkX c t x) (tkY c t y)), .int .i64 (hyV (tkX c t x) (tkY c t y)), .int .i64 0]) ∧ Kept w w' := by
  obtain ⟨⟨p0, p1⟩, p2, p3⟩ := wprod t c (by omega) t1
  have HV := fun W => ref_wvalid_w x y W
  rw [wok_is h0 h1 h2 h3] at HV
  have wr0 : IntKind.i64.wrap (t * sinV c) = t * sinV c := IntWalk.i64_in _ (by omega)
  have wr1 : IntKind.i64.wrap (t * cosV c) = t * cosV c := IntWalk.i64_in _ (by omega)
  have wr2 : IntKind.i64.wrap (x * 1073741824) = x * 1073741824 := IntWalk.i64_in _ (by omega)
  have wr3 : IntKind.i64.wrap (y * 1073741824) = y * 1073741824 := IntWalk.i64_in _ (by omega)
  have wr4 : IntKind.i64.wrap (t * sinV c + x * 1073741824) = t * sinV c + x * 1073741824 := IntWalk.i64_in _ (by omega)
  have wr5 : IntKind.i64.wrap (t * cosV c + y * 1073741824) = t * cosV c + y * 1073741824 := IntWalk.i64_in _ (by omega)
  obtain ⟨⟨k0, k1⟩, _⟩ := tk_bd c t t0 t1 h0 h1
  obtain ⟨_, k2, k3⟩ := tk_bd c t t0 t1 h2 h3
  have U1 := ref_round20 (t * sinV c + x * 1073741824) (by omega) (by omega)
  have U2 := ref_round20 (t * cosV c + y * 1073741824) (by omega) (by omega)
  obtain ⟨X, qX⟩ : ∃ X, tkX c t x = X := ⟨_, rfl⟩
  obtain ⟨Y, qY⟩ : ∃ Y, tkY c t y = Y := ⟨_, rfl⟩
  rw [show unt (t * sinV c + x * 1073741824) = X from qX] at U1
  rw [show unt (t * cosV c + y * 1073741824) = Y from qY] at U2
  rw [qX] at k0 k1
  rw [qY] at k2 k3
  obtain ⟨g0, g1⟩ := hyV_bd X Y k0 k1 k2 k3
  have HH := ref_hypot_w X Y (by omega) (by omega) (by omega) (by omega)
  have HT := ref_atan2_w X Y (by omega) (by omega) (by omega) (by omega)
  rw [qX, qY] at l
  rw [qX, qY]
  clear qX qY
  obtain ⟨G, qG⟩ : ∃ G, hyV X Y = G := ⟨_, rfl⟩
  rw [qG] at l g0 g1 HH
  rw [qG]
  clear qG
  go_enter Tryz.func18, Tryz.ntmps18
  go_wp2_with fail
  with_reducible refine (HV _).mono ?_
  rintro e w1 ⟨rfl, hk1⟩
  refine kuse (b := w.heap.size) hk1 (by first | (simp; done) | (simp; omega) | omega) ?_
  intro ha hb
  have hz1_0 : w.heap.size < w1.heap.size := by have := hk1.size; (try simp at this); omega
  have hn1_0 : ¬ w.heap.size = w1.heap.size := by omega
  have hm1_0 : ¬ w1.heap.size = w.heap.size := by omega
  have hf1_0_0 : w1.cell? ⟨w.heap.size, 0, none⟩ = some (.int .i64 x) := by first | (rw [ha]; with_reducible assumption) | (simp (maxDischargeDepth := 7) [go_sem, ha]; done) | (rw [ha]; assumption) | (simp (maxDischargeDepth := 7) [go_sem, ha, *]; done)
  have hf1_0_1 : w1.cell? ⟨w.heap.size, 1, none⟩ = some (.int .i64 y) := by first | (rw [ha]; with_reducible assumption) | (simp (maxDischargeDepth := 7) [go_sem, ha]; done) | (rw [ha]; assumption) | (simp (maxDischargeDepth := 7) [go_sem, ha, *]; done)
  try have hg1_0 : ∀ o, w1.frozen? ⟨w.heap.size, o, none⟩ = false := by intro o; first | (simp (maxDischargeDepth := 7) [go_sem, hb]; done) | (rw [hb]; simp (maxDischargeDepth := 7) [go_sem, *]; done)
  clear ha hb
  go_wp2_with fail
  go_region_held3 (fun W => W.cell? ⟨w.heap.size, 0, none⟩ = some (.int .i64 x) ∧ W.cell? ⟨w.heap.size, 1, none⟩ = some (.int .i64 y)) (first | (go_keep; done) | (simp (maxDischargeDepth := 9) [*, World.cell?_alloc_some, World.cell?_setCell_far]; done) | (simp (maxDischargeDepth := 9) [go_sem, *]; done)) (first | (go_at_call 34; with_reducible refine (ref_sin_w c c_0 c_1 _).mono ?_; rintro e w' ⟨rfl, rfl⟩) | (go_at_call 33; with_reducible refine (U1 _).mono ?_; rintro e w' ⟨rfl, rfl⟩))
  all_goals go_wp2_with fail
  go_region_held3 (fun W => W.cell? ⟨w.heap.size, 0, none⟩ = some (.int .i64 x) ∧ W.cell? ⟨w.heap.size, 1, none⟩ = some (.int .i64 y)) (first | (go_keep; done) | (simp (maxDischargeDepth := 9) [*, World.cell?_alloc_some, World.cell?_setCell_far]; done) | (simp (maxDischargeDepth := 9) [go_sem, *]; done)) (first | (go_at_call 35; with_reducible refine (ref_cos_w c c_0 c_1 _).mono ?_; rintro e w' ⟨rfl, rfl⟩) | (go_at_call 33; with_reducible refine (U2 _).mono ?_; rintro e w' ⟨rfl, rfl⟩))
  all_goals go_wp2_with fail
  with_reducible refine (HH _).mono ?_
  rintro e w' ⟨rfl, rfl⟩
  go_wp2_with fail
  with_reducible refine (HT _).mono ?_
  rintro e w' ⟨rfl, rfl⟩
  go_wp2_with fail
  all_goals go_ret3
  all_goals exact ⟨rfl, (by repeat (first | with_reducible exact Kept.refl _ | with_reducible assumption | with_reducible refine Kept.setCell ?_ (by first | (simp; done) | (simp; omega) | omega) _ | with_reducible refine Kept.alloc ?_ _ | with_reducible refine Kept.drewN ?_ _ | with_reducible refine Kept.drew ?_ | with_reducible refine Kept.trans ?_ (by with_reducible assumption) | with_reducible refine Kept.dr ?_ (by with_reducible assumption)))⟩
set_option maxHeartbeats 2000000 in
set_option maxRecDepth 100000 in
theorem ref_track_w (c t x y : Int) (c_0 : -9223372036854775808 ≤ c) (c_1 : c ≤ 9223372036854775807) (t_0 : -9223372036854775808 ≤ t) (t_1 : t ≤ 9223372036854775807) (w : World) : Calls Tryz.prog 18 #[.int .i64 c, .int .i64 t, .agg #[.int .i64 x, .int .i64 y]] w fun e w' => e = .returned (.tuple #[.int .i64 (kC c t x y), .int .i64 (kG c t x y), .int .i64 (kE c t x y)]) ∧ Kept w w' := by
  by_cases h : wok x y = false ∨ t < 1 ∨ 4000 < t
  · obtain ⟨e1, e2, e3⟩ := kE_arg (h := c) h
    rw [e1, e2, e3]
    cases hw : wok x y with
    | false => exact ref_tk_arg c t x y c_0 c_1 t_0 t_1 hw w
    | true =>
      obtain ⟨h0, h1, h2, h3⟩ := wok_yes hw
      rw [hw] at h
      exact ref_tk_tas c t x y c_0 c_1 t_0 t_1 h0 h1 h2 h3 (by simpa using h) w
  · have hw : wok x y = true := by cases e : wok x y with | true => rfl | false => exact absurd (Or.inl e) h
    obtain ⟨h0, h1, h2, h3⟩ := wok_yes hw
    by_cases l : hyV (tkX c t x) (tkY c t y) < 1024
    · obtain ⟨e1, e2, e3⟩ := kE_g h l
      rw [e1, e2, e3]
      exact ref_tk_g c t x y c_0 c_1 h0 h1 h2 h3 (by omega) (by omega) l w
    · obtain ⟨e1, e2, e3⟩ := kE_ok h l
      rw [e1, e2, e3]
      exact ref_tk_ok c t x y c_0 c_1 h0 h1 h2 h3 (by omega) (by omega) l w
set_option maxHeartbeats 2000000 in
set_option maxRecDepth 100000 in
theorem ref_of_arg (c s : Int) (c_0 : -9223372036854775808 ≤ c) (c_1 : c ≤ 9223372036854775807) (s_0 : -9223372036854775808 ≤ s) (s_1 : s ≤ 9223372036854775807) (h : s < 0 ∨ 400 < s) (w : World) : Calls Tryz.prog 12 #[.int .i64 c, .int .i64 s] w fun e w' => e = .returned (.tuple #[.agg #[.int .i64 (0), .int .i64 (0)], .int .i64 1]) ∧ Kept w w' := by
  rcases h with h | h
  all_goals
    go_enter Tryz.func12, Tryz.ntmps12
    go_wp2_with fail
    all_goals exact bodyPost_ret (v := .tuple #[.agg #[.int .i64 (0), .int .i64 (0)], .int .i64 1]) (by first | (simp [results, Tryz.results12, go_sem]; done) | (simp (maxDischargeDepth := 7) [results, Tryz.results12, go_sem, *]; done)) rfl ⟨rfl, (by repeat (first | with_reducible exact Kept.refl _ | with_reducible assumption | with_reducible refine Kept.setCell ?_ (by first | (simp; done) | (simp; omega) | omega) _ | with_reducible refine Kept.alloc ?_ _ | with_reducible refine Kept.drewN ?_ _ | with_reducible refine Kept.drew ?_ | with_reducible refine Kept.trans ?_ (by with_reducible assumption) | with_reducible refine Kept.dr ?_ (by with_reducible assumption)))⟩
set_option maxHeartbeats 2000000 in
set_option maxRecDepth 100000 in
theorem ref_of_yes (c s : Int) (c_0 : -9223372036854775808 ≤ c) (c_1 : c ≤ 9223372036854775807) (s0 : 0 ≤ s) (s1 : s ≤ 400) (w : World) : Calls Tryz.prog 12 #[.int .i64 c, .int .i64 s] w fun e w' => e = .returned (.tuple #[.agg #[.int .i64 (r30 (-s * sinV c)), .int .i64 (r30 (-s * cosV c))], .int .i64 0]) ∧ Kept w w' := by
  obtain ⟨⟨p0, p1⟩, p2, p3⟩ := wprod4 (-s) c (by omega) (by omega)
  have wr0 : IntKind.i64.wrap (-s) = -s := IntWalk.i64_in _ (by omega)
  have wr1 : IntKind.i64.wrap (-s * sinV c) = -s * sinV c := IntWalk.i64_in _ (by omega)
  have wr2 : IntKind.i64.wrap (-s * cosV c) = -s * cosV c := IntWalk.i64_in _ (by omega)
  have U1 := ref_round30 (-s * sinV c) (by omega) (by omega)
  have U2 := ref_round30 (-s * cosV c) (by omega) (by omega)
  obtain ⟨X, qX⟩ : ∃ X, r30 (-s * sinV c) = X := ⟨_, rfl⟩
  obtain ⟨Y, qY⟩ : ∃ Y, r30 (-s * cosV c) = Y := ⟨_, rfl⟩
  rw [qX] at U1
  rw [qY] at U2
  rw [qX, qY]
  clear qX qY
  go_enter Tryz.func12, Tryz.ntmps12
  go_wp2_with fail
  with_reducible refine (ref_sin_w c c_0 c_1 _).mono ?_
  rintro e w' ⟨rfl, rfl⟩
  go_wp2_with fail
  with_reducible refine (U1 _).mono ?_
  rintro e w' ⟨rfl, rfl⟩
  go_wp2_with fail
  with_reducible refine (ref_cos_w c c_0 c_1 _).mono ?_
  rintro e w' ⟨rfl, rfl⟩
  go_wp2_with fail
  with_reducible refine (U2 _).mono ?_
  rintro e w' ⟨rfl, rfl⟩
  go_wp2_with fail
  all_goals exact bodyPost_ret (v := .tuple #[.agg #[.int .i64 (X), .int .i64 (Y)], .int .i64 0]) (by first | (simp [results, Tryz.results12, go_sem]; done) | (simp (maxDischargeDepth := 7) [results, Tryz.results12, go_sem, *]; done)) rfl ⟨rfl, (by repeat (first | with_reducible exact Kept.refl _ | with_reducible assumption | with_reducible refine Kept.setCell ?_ (by first | (simp; done) | (simp; omega) | omega) _ | with_reducible refine Kept.alloc ?_ _ | with_reducible refine Kept.drewN ?_ _ | with_reducible refine Kept.drew ?_ | with_reducible refine Kept.trans ?_ (by with_reducible assumption) | with_reducible refine Kept.dr ?_ (by with_reducible assumption)))⟩
set_option maxHeartbeats 2000000 in
set_option maxRecDepth 100000 in
theorem ref_of_w (c s : Int) (c_0 : -9223372036854775808 ≤ c) (c_1 : c ≤ 9223372036854775807) (s_0 : -9223372036854775808 ≤ s) (s_1 : s ≤ 9223372036854775807) (w : World) : Calls Tryz.prog 12 #[.int .i64 c, .int .i64 s] w fun e w' => e = .returned (.tuple #[.agg #[.int .i64 (ofX c s), .int .i64 (ofY c s)], .int .i64 (ofE s)]) ∧ Kept w w' := by
  by_cases h : s < 0 ∨ 400 < s
  · obtain ⟨e1, e2, e3⟩ := of_no (f := c) h
    rw [e1, e2, e3]
    exact ref_of_arg c s c_0 c_1 s_0 s_1 h w
  · obtain ⟨e1, e2, e3⟩ := of_ok' (f := c) h
    rw [e1, e2, e3]
    exact ref_of_yes c s c_0 c_1 (by omega) (by omega) w
set_option maxHeartbeats 2000000 in
set_option maxRecDepth 100000 in
theorem ref_fr_arg (x y : Int) (h : wok x y = false) (w : World) : Calls Tryz.prog 14 #[.agg #[.int .i64 x, .int .i64 y]] w fun e w' => e = .returned (.tuple #[.int .i64 0, .int .i64 0, .int .i64 1]) ∧ Kept w w' := by
  have HV := fun W => ref_wvalid_w x y W
  rw [h] at HV
  go_enter Tryz.func14, Tryz.ntmps14
  go_wp2_with fail
  with_reducible refine (HV _).mono ?_
  rintro e w1 ⟨rfl, hk1⟩
  refine kuse (b := w.heap.size) hk1 (by first | (simp; done) | (simp; omega) | omega) ?_
  intro ha hb
  have hz1_0 : w.heap.size < w1.heap.size := by have := hk1.size; (try simp at this); omega
  have hn1_0 : ¬ w.heap.size = w1.heap.size := by omega
  have hm1_0 : ¬ w1.heap.size = w.heap.size := by omega
  have hf1_0_0 : w1.cell? ⟨w.heap.size, 0, none⟩ = some (.int .i64 x) := by first | (rw [ha]; with_reducible assumption) | (simp (maxDischargeDepth := 7) [go_sem, ha]; done) | (rw [ha]; assumption) | (simp (maxDischargeDepth := 7) [go_sem, ha, *]; done)
  have hf1_0_1 : w1.cell? ⟨w.heap.size, 1, none⟩ = some (.int .i64 y) := by first | (rw [ha]; with_reducible assumption) | (simp (maxDischargeDepth := 7) [go_sem, ha]; done) | (rw [ha]; assumption) | (simp (maxDischargeDepth := 7) [go_sem, ha, *]; done)
  try have hg1_0 : ∀ o, w1.frozen? ⟨w.heap.size, o, none⟩ = false := by intro o; first | (simp (maxDischargeDepth := 7) [go_sem, hb]; done) | (rw [hb]; simp (maxDischargeDepth := 7) [go_sem, *]; done)
  clear ha hb
  go_wp2_with fail
  all_goals go_ret3
  all_goals exact ⟨rfl, (by repeat (first | with_reducible exact Kept.refl _ | with_reducible assumption | with_reducible refine Kept.setCell ?_ (by first | (simp; done) | (simp; omega) | omega) _ | with_reducible refine Kept.alloc ?_ _ | with_reducible refine Kept.drewN ?_ _ | with_reducible refine Kept.drew ?_ | with_reducible refine Kept.trans ?_ (by with_reducible assumption) | with_reducible refine Kept.dr ?_ (by with_reducible assumption)))⟩
theorem eqWd (a b x y : Int) (w : World) : (Op.equalIn 10000 23 (.agg #[.int .i64 a, .int .i64 b]) (.agg #[.int .i64 x, .int .i64 y])).run Tryz.prog w = .ok (a == x && b == y) w := by
  rw [show (10000 : Nat) = 9999 + 1 from rfl, Op.equalIn]
  go_simp
  by_cases h1 : a = x <;> by_cases h2 : b = y <;> simp [h1, h2]
set_option maxHeartbeats 2000000 in
set_option maxRecDepth 100000 in
theorem ref_fr_z (x y : Int) (h0 : -400 ≤ x) (h1 : x ≤ 400) (h2 : -400 ≤ y) (h3 : y ≤ 400) (z : (x == 0 && y == 0) = true) (w : World) : Calls Tryz.prog 14 #[.agg #[.int .i64 x, .int .i64 y]] w fun e w' => e = .returned (.tuple #[.int .i64 0, .int .i64 0, .int .i64 0]) ∧ Kept w w' := by
  have HV := fun W => ref_wvalid_w x y W
  rw [wok_is h0 h1 h2 h3] at HV
  have wr0 : IntKind.i64.wrap (-x) = -x := IntWalk.i64_in _ (by omega)
  have wr1 : IntKind.i64.wrap (-y) = -y := IntWalk.i64_in _ (by omega)
  have HT := ref_atan2_w (-x) (-y) (by omega) (by omega) (by omega) (by omega)
  have HH := ref_hypot_w x y (by omega) (by omega) (by omega) (by omega)
  have eqz : ∀ w, (Op.equalIn 10000 23 (.agg #[.int .i64 x, .int .i64 y]) (.agg #[.int .i64 0, .int .i64 0])).run Tryz.prog w = .ok true w := fun w => by rw [eqWd, z]
  go_enter Tryz.func14, Tryz.ntmps14
  go_wp2_with fail
  with_reducible refine (HV _).mono ?_
  rintro e w1 ⟨rfl, hk1⟩
  refine kuse (b := w.heap.size) hk1 (by first | (simp; done) | (simp; omega) | omega) ?_
  intro ha hb
  have hz1_0 : w.heap.size < w1.heap.size := by have := hk1.size; (try simp at this); omega
  have hn1_0 : ¬ w.heap.size = w1.heap.size := by omega
  have hm1_0 : ¬ w1.heap.size = w.heap.size := by omega
  have hf1_0_0 : w1.cell? ⟨w.heap.size, 0, none⟩ = some (.int .i64 x) := by first | (rw [ha]; with_reducible assumption) | (simp (maxDischargeDepth := 7) [go_sem, ha]; done) | (rw [ha]; assumption) | (simp (maxDischargeDepth := 7) [go_sem, ha, *]; done)
  have hf1_0_1 : w1.cell? ⟨w.heap.size, 1, none⟩ = some (.int .i64 y) := by first | (rw [ha]; with_reducible assumption) | (simp (maxDischargeDepth := 7) [go_sem, ha]; done) | (rw [ha]; assumption) | (simp (maxDischargeDepth := 7) [go_sem, ha, *]; done)
  try have hg1_0 : ∀ o, w1.frozen? ⟨w.heap.size, o, none⟩ = false := by intro o; first | (simp (maxDischargeDepth := 7) [go_sem, hb]; done) | (rw [hb]; simp (maxDischargeDepth := 7) [go_sem, *]; done)
  clear ha hb
  go_wp2_with fail
  all_goals go_ret3
  all_goals exact ⟨rfl, (by repeat (first | with_reducible exact Kept.refl _ | with_reducible assumption | with_reducible refine Kept.setCell ?_ (by first | (simp; done) | (simp; omega) | omega) _ | with_reducible refine Kept.alloc ?_ _ | with_reducible refine Kept.drewN ?_ _ | with_reducible refine Kept.drew ?_ | with_reducible refine Kept.trans ?_ (by with_reducible assumption) | with_reducible refine Kept.dr ?_ (by with_reducible assumption)))⟩
set_option maxHeartbeats 2000000 in
set_option maxRecDepth 100000 in
theorem ref_fr_n (x y : Int) (h0 : -400 ≤ x) (h1 : x ≤ 400) (h2 : -400 ≤ y) (h3 : y ≤ 400) (z : (x == 0 && y == 0) = false) (w : World) : Calls Tryz.prog 14 #[.agg #[.int .i64 x, .int .i64 y]] w fun e w' => e = .returned (.tuple #[.int .i64 (at2V (-x) (-y)), .int .i64 (hyV x y), .int .i64 0]) ∧ Kept w w' := by
  have HV := fun W => ref_wvalid_w x y W
  rw [wok_is h0 h1 h2 h3] at HV
  have wr0 : IntKind.i64.wrap (-x) = -x := IntWalk.i64_in _ (by omega)
  have wr1 : IntKind.i64.wrap (-y) = -y := IntWalk.i64_in _ (by omega)
  have HT := ref_atan2_w (-x) (-y) (by omega) (by omega) (by omega) (by omega)
  have HH := ref_hypot_w x y (by omega) (by omega) (by omega) (by omega)
  have eqz : ∀ w, (Op.equalIn 10000 23 (.agg #[.int .i64 x, .int .i64 y]) (.agg #[.int .i64 0, .int .i64 0])).run Tryz.prog w = .ok false w := fun w => by rw [eqWd, z]
  go_enter Tryz.func14, Tryz.ntmps14
  go_wp2_with fail
  with_reducible refine (HV _).mono ?_
  rintro e w1 ⟨rfl, hk1⟩
  refine kuse (b := w.heap.size) hk1 (by first | (simp; done) | (simp; omega) | omega) ?_
  intro ha hb
  have hz1_0 : w.heap.size < w1.heap.size := by have := hk1.size; (try simp at this); omega
  have hn1_0 : ¬ w.heap.size = w1.heap.size := by omega
  have hm1_0 : ¬ w1.heap.size = w.heap.size := by omega
  have hf1_0_0 : w1.cell? ⟨w.heap.size, 0, none⟩ = some (.int .i64 x) := by first | (rw [ha]; with_reducible assumption) | (simp (maxDischargeDepth := 7) [go_sem, ha]; done) | (rw [ha]; assumption) | (simp (maxDischargeDepth := 7) [go_sem, ha, *]; done)
  have hf1_0_1 : w1.cell? ⟨w.heap.size, 1, none⟩ = some (.int .i64 y) := by first | (rw [ha]; with_reducible assumption) | (simp (maxDischargeDepth := 7) [go_sem, ha]; done) | (rw [ha]; assumption) | (simp (maxDischargeDepth := 7) [go_sem, ha, *]; done)
  try have hg1_0 : ∀ o, w1.frozen? ⟨w.heap.size, o, none⟩ = false := by intro o; first | (simp (maxDischargeDepth := 7) [go_sem, hb]; done) | (rw [hb]; simp (maxDischargeDepth := 7) [go_sem, *]; done)
  clear ha hb
  go_wp2_with fail
  with_reducible refine (HT _).mono ?_
  rintro e w' ⟨rfl, rfl⟩
  go_wp2_with fail
  with_reducible refine (HH _).mono ?_
  rintro e w' ⟨rfl, rfl⟩
  go_wp2_with fail
  all_goals go_ret3
  all_goals exact ⟨rfl, (by repeat (first | with_reducible exact Kept.refl _ | with_reducible assumption | with_reducible refine Kept.setCell ?_ (by first | (simp; done) | (simp; omega) | omega) _ | with_reducible refine Kept.alloc ?_ _ | with_reducible refine Kept.drewN ?_ _ | with_reducible refine Kept.drew ?_ | with_reducible refine Kept.trans ?_ (by with_reducible assumption) | with_reducible refine Kept.dr ?_ (by with_reducible assumption)))⟩
theorem fr_zero : at2V (-0) (-0) = 0 ∧ hyV 0 0 = 0 := by
  constructor
  · unfold at2V
    rw [if_neg (by decide), if_pos (by decide)]
  · decide +kernel
set_option maxHeartbeats 2000000 in
set_option maxRecDepth 100000 in
theorem ref_from_w (x y : Int) (w : World) : Calls Tryz.prog 14 #[.agg #[.int .i64 x, .int .i64 y]] w fun e w' => e = .returned (.tuple #[.int .i64 (fA1 x y), .int .i64 (fS1 x y), .int .i64 (pE x y)]) ∧ Kept w w' := by
  cases h : wok x y with
  | false =>
    obtain ⟨e1, e2, e3⟩ := p_no h
    rw [e1, e2, e3]
    exact ref_fr_arg x y h w
  | true =>
    obtain ⟨e1, e2, e3⟩ := p_ok h
    obtain ⟨h0, h1, h2, h3⟩ := wok_yes h
    rw [e1, e2, e3]
    cases z : (x == 0 && y == 0) with
    | false => exact ref_fr_n x y h0 h1 h2 h3 z w
    | true =>
      simp at z
      obtain ⟨rfl, rfl⟩ := z
      rw [fr_zero.1, fr_zero.2]
      exact ref_fr_z 0 0 h0 h1 h2 h3 rfl w
end Go.Proofs.YtfpgdicacjkfoaaGreatDoor
