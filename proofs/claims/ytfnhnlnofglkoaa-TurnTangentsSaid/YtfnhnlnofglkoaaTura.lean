/-
  Own contracts: package line and the document's answers of layer 11: arcs, lengths.
-/
import Derived.Test.YtfnhnlnofglkoaaTurn
import Derived.Test.YtfnhnlnofglkoaaLinc
import Derived.Test.YtfnhnlnofglkoaaLincr
import Derived.Test.YtfnhnlnofglkoaaLinbr
import Derived.WalkKit
import Derived.ProofKit
import Derived.OpenShut
import Derived.WalkLawsBesides
import Derived.WalkSpells
import Derived.Lib.Hide
import Derived.Deep.DeepCutAuto
import Derived.Deep.CutBlock
import Derived.Deep.QuietTactic
import Derived.BigQuiet
import Derived.Handy
import Derived.StillTailTactics
import Derived.IntWalk
import Derived.LoopN
import Derived.Deep.RegionHeld3
namespace Go.Proofs.Ytfnhnlnofglkoaa
open Go.ChangeShapes Go.WideShapes Go.ChangeAt Go.RowKit
set_option linter.unusedVariables false
set_option linter.unusedSimpArgs false
theorem sg1_mul (sw b : Int) : sg1 sw * b = b ∨ sg1 sw * b = -b := by unfold sg1; split <;> omega
theorem sg1_cases (x : Int) : sg1 x = 1 ∨ sg1 x = -1 := by unfold sg1; split <;> omega
theorem calls_kept {P : Program} {g : FuncId} {args : Array Value} {w : World} {v : Value} (h : Calls P g args w fun e w' => e = .returned v ∧ w = w') : Calls P g args w fun e w' => e = .returned v ∧ Kept w w' :=
  h.mono fun _ _ k => ⟨k.1, k.2 ▸ Kept.refl _⟩
set_option maxHeartbeats 2000000 in
set_option maxRecDepth 100000 in
theorem vsp_ok (x : Int) (h0 : 1 ≤ x) (h1 : x ≤ 1000) (w : World) : Calls Try.prog 38 #[.int .i64 x] w fun e w' => e = .returned (.bool true) ∧ w = w' := by
  go_enter Try.func38, Try.ntmps38
  go_wp2
  all_goals first | (go_ret; refine ⟨?_, rfl⟩; first | rfl | (refine retb ?_; simp; done) | (refine retb ?_; simp; omega)) | (exfalso; omega)
set_option maxHeartbeats 2000000 in
set_option maxRecDepth 100000 in
theorem vsp_bad (x : Int) (h : x < 1 ∨ 1000 < x) (w : World) : Calls Try.prog 38 #[.int .i64 x] w fun e w' => e = .returned (.bool false) ∧ w = w' := by
  have rf : ∀ b : Bool, b = false → Ending.returned (.bool b) = .returned (.bool false) := fun b h => by rw [h]
  rcases h with h | h
  all_goals
    go_enter Try.func38, Try.ntmps38
    go_wp2
    all_goals first | (go_ret; refine ⟨?_, rfl⟩; first | rfl | (refine rf _ ?_; simp; done) | (refine rf _ ?_; simp; omega)) | (exfalso; omega)
set_option maxHeartbeats 2000000 in
set_option maxRecDepth 100000 in
theorem vr_ok (x : Int) (h0 : 1 ≤ x) (h1 : x ≤ 8000000) (w : World) : Calls Try.prog 48 #[.int .i64 x] w fun e w' => e = .returned (.bool true) ∧ w = w' := by
  go_enter Try.func48, Try.ntmps48
  go_wp2
  all_goals first | (go_ret; refine ⟨?_, rfl⟩; first | rfl | (refine retb ?_; simp; done) | (refine retb ?_; simp; omega)) | (exfalso; omega)
set_option maxHeartbeats 2000000 in
set_option maxRecDepth 100000 in
theorem vr_bad (x : Int) (h : x < 1 ∨ 8000000 < x) (w : World) : Calls Try.prog 48 #[.int .i64 x] w fun e w' => e = .returned (.bool false) ∧ w = w' := by
  have rf : ∀ b : Bool, b = false → Ending.returned (.bool b) = .returned (.bool false) := fun b h => by rw [h]
  rcases h with h | h
  all_goals
    go_enter Try.func48, Try.ntmps48
    go_wp2
    all_goals first | (go_ret; refine ⟨?_, rfl⟩; first | rfl | (refine rf _ ?_; simp; done) | (refine rf _ ?_; simp; omega)) | (exfalso; omega)
theorem sabs_w (x : Int) (h0 : -4611686018427387904 ≤ x) (h1 : x ≤ 4611686018427387904) (w : World) : Calls Try.prog 53 #[.int .i64 x] w fun e w' => e = .returned (.int .i64 (iabs x)) ∧ w = w' := by
  have h := abs_w x (by omega) (by omega) w
  rw [sat_ab x h0 h1] at h
  exact h
set_option maxHeartbeats 2000000 in
set_option maxRecDepth 100000 in
theorem rsize_w (x : Int) (h0 : -4611686018427387904 ≤ x) (h1 : x ≤ 4611686018427387904) (w : World) : Calls Try.prog 55 #[.int .i64 x] w fun e w' => e = .returned (.int .i64 (iabs x)) ∧ w = w' := by
  by_cases h : x < 0
  · rw [iabs_neg x (by omega)]
    go_enter Try.func55, Try.ntmps55
    go_wp2_with fail
    all_goals first | (go_ret; exact ⟨rfl, rfl⟩) | (exfalso; omega)
  · rw [iabs_pos x (by omega)]
    go_enter Try.func55, Try.ntmps55
    go_wp2_with fail
    all_goals first | (go_ret; exact ⟨rfl, rfl⟩) | (exfalso; omega)
set_option maxHeartbeats 2000000 in
set_option maxRecDepth 100000 in
theorem aside_w (x : Int) (w : World) : Calls Try.prog 57 #[.int .i64 x] w fun e w' => e = .returned (.int .i64 (sg1 x)) ∧ w = w' := by
  unfold sg1
  by_cases h : x < 0
  · rw [if_pos h]
    go_enter Try.func57, Try.ntmps57
    go_wp2_with fail
    all_goals first | (go_ret; exact ⟨rfl, rfl⟩) | (exfalso; omega)
  · rw [if_neg h]
    go_enter Try.func57, Try.ntmps57
    go_wp2_with fail
    all_goals first | (go_ret; exact ⟨rfl, rfl⟩) | (exfalso; omega)
set_option maxHeartbeats 2000000 in
set_option maxRecDepth 100000 in
theorem turnOf_w (x : Int) (w : World) : Calls Try.prog 64 #[.int .i64 x] w fun e w' => e = .returned (.int .u8 (if x < 0 then 1 else 2)) ∧ w = w' := by
  by_cases h : x < 0
  · rw [if_pos h]
    go_enter Try.func64, Try.ntmps64
    go_wp2_with fail
    all_goals first | (go_ret; exact ⟨rfl, rfl⟩) | (exfalso; omega)
  · rw [if_neg h]
    go_enter Try.func64, Try.ntmps64
    go_wp2_with fail
    all_goals first | (go_ret; exact ⟨rfl, rfl⟩) | (exfalso; omega)
set_option maxHeartbeats 2000000 in
set_option maxRecDepth 100000 in
theorem rside_w (d b x : Int) (d0 : -9223372036854775808 ≤ d) (d1 : d ≤ 9223372036854775807) (b0 : -4611686018427387904 ≤ b) (b1 : b ≤ 4611686018427387904) (w : World) : Calls Try.prog 60 #[.int .i64 d, .int .i64 b, .int .i64 x] w fun e w' => e = .returned (.int .i64 (trn d (sg1 x * b))) ∧ w = w' := by
  have tb := trn_bd d (sg1 x * b)
  by_cases h : x < 0
  · have e : sg1 x * b = -b := by unfold sg1; rw [if_pos h]; omega
    rw [e] at tb ⊢
    obtain ⟨tb0, tb1⟩ := tb
    have T1 := fun w => ref_turn_w d (-b) (by omega) (by omega) (by omega) (by omega) w
    have HT1 := Lib.hid T1
    clear T1
    go_enter Try.func60, Try.ntmps60
    go_wp2_with fail
    with_reducible refine (HT1.out _).mono ?_
    rintro e w' ⟨rfl, rfl⟩
    go_wp2_with fail
    all_goals go_ret
    all_goals exact ⟨rfl, rfl⟩

  · have e : sg1 x * b = b := by unfold sg1; rw [if_neg h]; omega
    rw [e] at tb ⊢
    obtain ⟨tb0, tb1⟩ := tb
    have T1 := fun w => ref_turn_w d b (by omega) (by omega) (by omega) (by omega) w
    have HT1 := Lib.hid T1
    clear T1
    go_enter Try.func60, Try.ntmps60
    go_wp2_with fail
    with_reducible refine (HT1.out _).mono ?_
    rintro e w' ⟨rfl, rfl⟩
    go_wp2_with fail
    all_goals go_ret
    all_goals exact ⟨rfl, rfl⟩
set_option maxHeartbeats 2000000 in
set_option maxRecDepth 100000 in
theorem av_ok (cX cY r fr sw : Int) (ha : arB cX cY r fr sw = true) (w : World) : Calls Try.prog 20 #[.agg #[.int .i64 cX, .int .i64 cY, .int .i64 r, .int .i64 fr, .int .i64 sw]] w fun e w' => e = .returned (.bool true) ∧ Kept w w' := by
  obtain ⟨hc, r0, r1, f0, f1, s0, s1⟩ := ar_yes ha
  obtain ⟨cX0, cX1, cY0, cY1⟩ := pok_yes hc
  go_enter Try.func20, Try.ntmps20
  go_wp2_with fail
  with_reducible refine (pv_ok cX cY hc _).mono ?_
  rintro e w1 ⟨rfl, hk1⟩
  refine kuz (b := w.heap.size) hk1 (by first | (simp; done) | (simp; omega) | omega) ?_
  intro ha hb hz1_0 hn1_0 hm1_0
  have hf1_0_0 : w1.cell? ⟨w.heap.size, 0, none⟩ = some (.int .i64 cX) := (ha _).trans (by first | with_reducible assumption | (simp (maxDischargeDepth := 7) [go_sem]; done) | (simp (maxDischargeDepth := 7) [go_sem, *]; done))
  have hf1_0_1 : w1.cell? ⟨w.heap.size, 1, none⟩ = some (.int .i64 cY) := (ha _).trans (by first | with_reducible assumption | (simp (maxDischargeDepth := 7) [go_sem]; done) | (simp (maxDischargeDepth := 7) [go_sem, *]; done))
  have hf1_0_2 : w1.cell? ⟨w.heap.size, 2, none⟩ = some (.int .i64 r) := (ha _).trans (by first | with_reducible assumption | (simp (maxDischargeDepth := 7) [go_sem]; done) | (simp (maxDischargeDepth := 7) [go_sem, *]; done))
  have hf1_0_3 : w1.cell? ⟨w.heap.size, 3, none⟩ = some (.int .i64 fr) := (ha _).trans (by first | with_reducible assumption | (simp (maxDischargeDepth := 7) [go_sem]; done) | (simp (maxDischargeDepth := 7) [go_sem, *]; done))
  have hf1_0_4 : w1.cell? ⟨w.heap.size, 4, none⟩ = some (.int .i64 sw) := (ha _).trans (by first | with_reducible assumption | (simp (maxDischargeDepth := 7) [go_sem]; done) | (simp (maxDischargeDepth := 7) [go_sem, *]; done))
  try have hg1_0 : ∀ o, w1.frozen? ⟨w.heap.size, o, none⟩ = false := by intro o; rw [hb]; first | (simp (maxDischargeDepth := 7) [go_sem]; done) | (simp (maxDischargeDepth := 7) [go_sem, *]; done)
  clear ha hb
  go_wp2_with fail
  with_reducible refine (vr_ok r r0 r1 _).mono ?_
  rintro e w' ⟨rfl, rfl⟩
  go_wp2_with fail
  all_goals first | (go_ret; refine ⟨?_, (by repeat (first | with_reducible exact Kept.refl _ | with_reducible assumption | with_reducible refine Kept.setCell ?_ (by first | (simp; done) | (simp; omega) | omega) _ | with_reducible refine Kept.alloc ?_ _ | with_reducible refine Kept.drewN ?_ _ | with_reducible refine Kept.drew ?_ | with_reducible refine Kept.trans ?_ (by with_reducible assumption) | with_reducible refine Kept.dr ?_ (by with_reducible assumption)))⟩; first | rfl | (refine retb ?_; simp; done) | (refine retb ?_; simp; omega)) | (exfalso; omega)
set_option maxHeartbeats 4000000 in
set_option maxRecDepth 100000 in
theorem av_bad (cX cY r fr sw : Int) (h : arB cX cY r fr sw = false) (w : World) : Calls Try.prog 20 #[.agg #[.int .i64 cX, .int .i64 cY, .int .i64 r, .int .i64 fr, .int .i64 sw]] w fun e w' => e = .returned (.bool false) ∧ Kept w w' := by
  rcases ar_no h with hc | ⟨hc, hh⟩
  · clear h
    have rf : ∀ b : Bool, b = false → Ending.returned (.bool b) = .returned (.bool false) := fun b h => by rw [h]
    go_enter Try.func20, Try.ntmps20
    go_wp2_with fail
    with_reducible refine (pv_bad cX cY hc _).mono ?_
    rintro e w1 ⟨rfl, hk1⟩
    refine kuz (b := w.heap.size) hk1 (by first | (simp; done) | (simp; omega) | omega) ?_
    intro ha hb hz1_0 hn1_0 hm1_0
    have hf1_0_0 : w1.cell? ⟨w.heap.size, 0, none⟩ = some (.int .i64 cX) := (ha _).trans (by first | with_reducible assumption | (simp (maxDischargeDepth := 7) [go_sem]; done) | (simp (maxDischargeDepth := 7) [go_sem, *]; done))
    have hf1_0_1 : w1.cell? ⟨w.heap.size, 1, none⟩ = some (.int .i64 cY) := (ha _).trans (by first | with_reducible assumption | (simp (maxDischargeDepth := 7) [go_sem]; done) | (simp (maxDischargeDepth := 7) [go_sem, *]; done))
    have hf1_0_2 : w1.cell? ⟨w.heap.size, 2, none⟩ = some (.int .i64 r) := (ha _).trans (by first | with_reducible assumption | (simp (maxDischargeDepth := 7) [go_sem]; done) | (simp (maxDischargeDepth := 7) [go_sem, *]; done))
    have hf1_0_3 : w1.cell? ⟨w.heap.size, 3, none⟩ = some (.int .i64 fr) := (ha _).trans (by first | with_reducible assumption | (simp (maxDischargeDepth := 7) [go_sem]; done) | (simp (maxDischargeDepth := 7) [go_sem, *]; done))
    have hf1_0_4 : w1.cell? ⟨w.heap.size, 4, none⟩ = some (.int .i64 sw) := (ha _).trans (by first | with_reducible assumption | (simp (maxDischargeDepth := 7) [go_sem]; done) | (simp (maxDischargeDepth := 7) [go_sem, *]; done))
    try have hg1_0 : ∀ o, w1.frozen? ⟨w.heap.size, o, none⟩ = false := by intro o; rw [hb]; first | (simp (maxDischargeDepth := 7) [go_sem]; done) | (simp (maxDischargeDepth := 7) [go_sem, *]; done)
    clear ha hb
    go_wp2_with fail
    all_goals first | (go_ret; refine ⟨?_, (by repeat (first | with_reducible exact Kept.refl _ | with_reducible assumption | with_reducible refine Kept.setCell ?_ (by first | (simp; done) | (simp; omega) | omega) _ | with_reducible refine Kept.alloc ?_ _ | with_reducible refine Kept.drewN ?_ _ | with_reducible refine Kept.drew ?_ | with_reducible refine Kept.trans ?_ (by with_reducible assumption) | with_reducible refine Kept.dr ?_ (by with_reducible assumption)))⟩; first | rfl | (refine rf _ ?_; simp; done) | (refine rf _ ?_; simp; omega)) | (exfalso; omega)
  · clear h
    by_cases hr : 1 ≤ r ∧ r ≤ 8000000
    · have h2 : fr < 0 ∨ 129600000 ≤ fr ∨ sw < -129600000 ∨ 129600000 < sw := by omega
      clear hh
      rcases h2 with h2 | h2 | h2 | h2
      all_goals
        have rf : ∀ b : Bool, b = false → Ending.returned (.bool b) = .returned (.bool false) := fun b h => by rw [h]
        go_enter Try.func20, Try.ntmps20
        go_wp2_with fail
        with_reducible refine (pv_ok cX cY hc _).mono ?_
        rintro e w1 ⟨rfl, hk1⟩
        refine kuz (b := w.heap.size) hk1 (by first | (simp; done) | (simp; omega) | omega) ?_
        intro ha hb hz1_0 hn1_0 hm1_0
        have hf1_0_0 : w1.cell? ⟨w.heap.size, 0, none⟩ = some (.int .i64 cX) := (ha _).trans (by first | with_reducible assumption | (simp (maxDischargeDepth := 7) [go_sem]; done) | (simp (maxDischargeDepth := 7) [go_sem, *]; done))
        have hf1_0_1 : w1.cell? ⟨w.heap.size, 1, none⟩ = some (.int .i64 cY) := (ha _).trans (by first | with_reducible assumption | (simp (maxDischargeDepth := 7) [go_sem]; done) | (simp (maxDischargeDepth := 7) [go_sem, *]; done))
        have hf1_0_2 : w1.cell? ⟨w.heap.size, 2, none⟩ = some (.int .i64 r) := (ha _).trans (by first | with_reducible assumption | (simp (maxDischargeDepth := 7) [go_sem]; done) | (simp (maxDischargeDepth := 7) [go_sem, *]; done))
        have hf1_0_3 : w1.cell? ⟨w.heap.size, 3, none⟩ = some (.int .i64 fr) := (ha _).trans (by first | with_reducible assumption | (simp (maxDischargeDepth := 7) [go_sem]; done) | (simp (maxDischargeDepth := 7) [go_sem, *]; done))
        have hf1_0_4 : w1.cell? ⟨w.heap.size, 4, none⟩ = some (.int .i64 sw) := (ha _).trans (by first | with_reducible assumption | (simp (maxDischargeDepth := 7) [go_sem]; done) | (simp (maxDischargeDepth := 7) [go_sem, *]; done))
        try have hg1_0 : ∀ o, w1.frozen? ⟨w.heap.size, o, none⟩ = false := by intro o; rw [hb]; first | (simp (maxDischargeDepth := 7) [go_sem]; done) | (simp (maxDischargeDepth := 7) [go_sem, *]; done)
        clear ha hb
        go_wp2_with fail
        with_reducible refine (vr_ok r hr.1 hr.2 _).mono ?_
        rintro e w' ⟨rfl, rfl⟩
        go_wp2_with fail
        all_goals first | (go_ret; refine ⟨?_, (by repeat (first | with_reducible exact Kept.refl _ | with_reducible assumption | with_reducible refine Kept.setCell ?_ (by first | (simp; done) | (simp; omega) | omega) _ | with_reducible refine Kept.alloc ?_ _ | with_reducible refine Kept.drewN ?_ _ | with_reducible refine Kept.drew ?_ | with_reducible refine Kept.trans ?_ (by with_reducible assumption) | with_reducible refine Kept.dr ?_ (by with_reducible assumption)))⟩; first | rfl | (refine rf _ ?_; simp; done) | (refine rf _ ?_; simp; omega)) | (exfalso; omega)
    · replace hr : r < 1 ∨ 8000000 < r := by omega
      clear hh
      rcases hr with hr | hr
      all_goals
        have rf : ∀ b : Bool, b = false → Ending.returned (.bool b) = .returned (.bool false) := fun b h => by rw [h]
        go_enter Try.func20, Try.ntmps20
        go_wp2_with fail
        with_reducible refine (pv_ok cX cY hc _).mono ?_
        rintro e w1 ⟨rfl, hk1⟩
        refine kuz (b := w.heap.size) hk1 (by first | (simp; done) | (simp; omega) | omega) ?_
        intro ha hb hz1_0 hn1_0 hm1_0
        have hf1_0_0 : w1.cell? ⟨w.heap.size, 0, none⟩ = some (.int .i64 cX) := (ha _).trans (by first | with_reducible assumption | (simp (maxDischargeDepth := 7) [go_sem]; done) | (simp (maxDischargeDepth := 7) [go_sem, *]; done))
        have hf1_0_1 : w1.cell? ⟨w.heap.size, 1, none⟩ = some (.int .i64 cY) := (ha _).trans (by first | with_reducible assumption | (simp (maxDischargeDepth := 7) [go_sem]; done) | (simp (maxDischargeDepth := 7) [go_sem, *]; done))
        have hf1_0_2 : w1.cell? ⟨w.heap.size, 2, none⟩ = some (.int .i64 r) := (ha _).trans (by first | with_reducible assumption | (simp (maxDischargeDepth := 7) [go_sem]; done) | (simp (maxDischargeDepth := 7) [go_sem, *]; done))
        have hf1_0_3 : w1.cell? ⟨w.heap.size, 3, none⟩ = some (.int .i64 fr) := (ha _).trans (by first | with_reducible assumption | (simp (maxDischargeDepth := 7) [go_sem]; done) | (simp (maxDischargeDepth := 7) [go_sem, *]; done))
        have hf1_0_4 : w1.cell? ⟨w.heap.size, 4, none⟩ = some (.int .i64 sw) := (ha _).trans (by first | with_reducible assumption | (simp (maxDischargeDepth := 7) [go_sem]; done) | (simp (maxDischargeDepth := 7) [go_sem, *]; done))
        try have hg1_0 : ∀ o, w1.frozen? ⟨w.heap.size, o, none⟩ = false := by intro o; rw [hb]; first | (simp (maxDischargeDepth := 7) [go_sem]; done) | (simp (maxDischargeDepth := 7) [go_sem, *]; done)
        clear ha hb
        go_wp2_with fail
        with_reducible refine (vr_bad r (by omega) _).mono ?_
        rintro e w' ⟨rfl, rfl⟩
        go_wp2_with fail
        all_goals first | (go_ret; refine ⟨?_, (by repeat (first | with_reducible exact Kept.refl _ | with_reducible assumption | with_reducible refine Kept.setCell ?_ (by first | (simp; done) | (simp; omega) | omega) _ | with_reducible refine Kept.alloc ?_ _ | with_reducible refine Kept.drewN ?_ _ | with_reducible refine Kept.drew ?_ | with_reducible refine Kept.trans ?_ (by with_reducible assumption) | with_reducible refine Kept.dr ?_ (by with_reducible assumption)))⟩; first | rfl | (refine rf _ ?_; simp; done) | (refine rf _ ?_; simp; omega)) | (exfalso; omega)
set_option maxHeartbeats 2000000 in
set_option maxRecDepth 100000 in
theorem rav_ok (cX cY r fr sw : Int) (ha : arB cX cY r fr sw = true) (w : World) : Calls Try.prog 21 #[.agg #[.int .i64 cX, .int .i64 cY, .int .i64 r, .int .i64 fr, .int .i64 sw]] w fun e w' => e = .returned (.bool true) ∧ Kept w w' := by
  obtain ⟨hc, r0, r1, f0, f1, s0, s1⟩ := ar_yes ha
  obtain ⟨cX0, cX1, cY0, cY1⟩ := pok_yes hc
  go_enter Try.func21, Try.ntmps21
  go_wp2_with fail
  with_reducible refine (rpv_ok cX cY hc _).mono ?_
  rintro e w1 ⟨rfl, hk1⟩
  refine kuz (b := w.heap.size) hk1 (by first | (simp; done) | (simp; omega) | omega) ?_
  intro ha hb hz1_0 hn1_0 hm1_0
  have hf1_0_0 : w1.cell? ⟨w.heap.size, 0, none⟩ = some (.int .i64 cX) := (ha _).trans (by first | with_reducible assumption | (simp (maxDischargeDepth := 7) [go_sem]; done) | (simp (maxDischargeDepth := 7) [go_sem, *]; done))
  have hf1_0_1 : w1.cell? ⟨w.heap.size, 1, none⟩ = some (.int .i64 cY) := (ha _).trans (by first | with_reducible assumption | (simp (maxDischargeDepth := 7) [go_sem]; done) | (simp (maxDischargeDepth := 7) [go_sem, *]; done))
  have hf1_0_2 : w1.cell? ⟨w.heap.size, 2, none⟩ = some (.int .i64 r) := (ha _).trans (by first | with_reducible assumption | (simp (maxDischargeDepth := 7) [go_sem]; done) | (simp (maxDischargeDepth := 7) [go_sem, *]; done))
  have hf1_0_3 : w1.cell? ⟨w.heap.size, 3, none⟩ = some (.int .i64 fr) := (ha _).trans (by first | with_reducible assumption | (simp (maxDischargeDepth := 7) [go_sem]; done) | (simp (maxDischargeDepth := 7) [go_sem, *]; done))
  have hf1_0_4 : w1.cell? ⟨w.heap.size, 4, none⟩ = some (.int .i64 sw) := (ha _).trans (by first | with_reducible assumption | (simp (maxDischargeDepth := 7) [go_sem]; done) | (simp (maxDischargeDepth := 7) [go_sem, *]; done))
  try have hg1_0 : ∀ o, w1.frozen? ⟨w.heap.size, o, none⟩ = false := by intro o; rw [hb]; first | (simp (maxDischargeDepth := 7) [go_sem]; done) | (simp (maxDischargeDepth := 7) [go_sem, *]; done)
  clear ha hb
  go_wp2_with fail
  all_goals first | (go_ret; refine ⟨?_, (by repeat (first | with_reducible exact Kept.refl _ | with_reducible assumption | with_reducible refine Kept.setCell ?_ (by first | (simp; done) | (simp; omega) | omega) _ | with_reducible refine Kept.alloc ?_ _ | with_reducible refine Kept.drewN ?_ _ | with_reducible refine Kept.drew ?_ | with_reducible refine Kept.trans ?_ (by with_reducible assumption) | with_reducible refine Kept.dr ?_ (by with_reducible assumption)))⟩; first | rfl | (refine retb ?_; simp; done) | (refine retb ?_; simp; omega)) | (exfalso; omega)
set_option maxHeartbeats 4000000 in
set_option maxRecDepth 100000 in
theorem rav_bad (cX cY r fr sw : Int) (h : arB cX cY r fr sw = false) (w : World) : Calls Try.prog 21 #[.agg #[.int .i64 cX, .int .i64 cY, .int .i64 r, .int .i64 fr, .int .i64 sw]] w fun e w' => e = .returned (.bool false) ∧ Kept w w' := by
  rcases ar_no h with hc | ⟨hc, hh⟩
  · clear h
    have rf : ∀ b : Bool, b = false → Ending.returned (.bool b) = .returned (.bool false) := fun b h => by rw [h]
    go_enter Try.func21, Try.ntmps21
    go_wp2_with fail
    with_reducible refine (rpv_bad cX cY hc _).mono ?_
    rintro e w1 ⟨rfl, hk1⟩
    refine kuz (b := w.heap.size) hk1 (by first | (simp; done) | (simp; omega) | omega) ?_
    intro ha hb hz1_0 hn1_0 hm1_0
    have hf1_0_0 : w1.cell? ⟨w.heap.size, 0, none⟩ = some (.int .i64 cX) := (ha _).trans (by first | with_reducible assumption | (simp (maxDischargeDepth := 7) [go_sem]; done) | (simp (maxDischargeDepth := 7) [go_sem, *]; done))
    have hf1_0_1 : w1.cell? ⟨w.heap.size, 1, none⟩ = some (.int .i64 cY) := (ha _).trans (by first | with_reducible assumption | (simp (maxDischargeDepth := 7) [go_sem]; done) | (simp (maxDischargeDepth := 7) [go_sem, *]; done))
    have hf1_0_2 : w1.cell? ⟨w.heap.size, 2, none⟩ = some (.int .i64 r) := (ha _).trans (by first | with_reducible assumption | (simp (maxDischargeDepth := 7) [go_sem]; done) | (simp (maxDischargeDepth := 7) [go_sem, *]; done))
    have hf1_0_3 : w1.cell? ⟨w.heap.size, 3, none⟩ = some (.int .i64 fr) := (ha _).trans (by first | with_reducible assumption | (simp (maxDischargeDepth := 7) [go_sem]; done) | (simp (maxDischargeDepth := 7) [go_sem, *]; done))
    have hf1_0_4 : w1.cell? ⟨w.heap.size, 4, none⟩ = some (.int .i64 sw) := (ha _).trans (by first | with_reducible assumption | (simp (maxDischargeDepth := 7) [go_sem]; done) | (simp (maxDischargeDepth := 7) [go_sem, *]; done))
    try have hg1_0 : ∀ o, w1.frozen? ⟨w.heap.size, o, none⟩ = false := by intro o; rw [hb]; first | (simp (maxDischargeDepth := 7) [go_sem]; done) | (simp (maxDischargeDepth := 7) [go_sem, *]; done)
    clear ha hb
    go_wp2_with fail
    all_goals first | (go_ret; refine ⟨?_, (by repeat (first | with_reducible exact Kept.refl _ | with_reducible assumption | with_reducible refine Kept.setCell ?_ (by first | (simp; done) | (simp; omega) | omega) _ | with_reducible refine Kept.alloc ?_ _ | with_reducible refine Kept.drewN ?_ _ | with_reducible refine Kept.drew ?_ | with_reducible refine Kept.trans ?_ (by with_reducible assumption) | with_reducible refine Kept.dr ?_ (by with_reducible assumption)))⟩; first | rfl | (refine rf _ ?_; simp; done) | (refine rf _ ?_; simp; omega)) | (exfalso; omega)
  · clear h
    by_cases hr : 1 ≤ r ∧ r ≤ 8000000
    · have h2 : fr < 0 ∨ 129600000 ≤ fr ∨ sw < -129600000 ∨ 129600000 < sw := by omega
      clear hh
      rcases h2 with h2 | h2 | h2 | h2
      all_goals
        have rf : ∀ b : Bool, b = false → Ending.returned (.bool b) = .returned (.bool false) := fun b h => by rw [h]
        go_enter Try.func21, Try.ntmps21
        go_wp2_with fail
        with_reducible refine (rpv_ok cX cY hc _).mono ?_
        rintro e w1 ⟨rfl, hk1⟩
        refine kuz (b := w.heap.size) hk1 (by first | (simp; done) | (simp; omega) | omega) ?_
        intro ha hb hz1_0 hn1_0 hm1_0
        have hf1_0_0 : w1.cell? ⟨w.heap.size, 0, none⟩ = some (.int .i64 cX) := (ha _).trans (by first | with_reducible assumption | (simp (maxDischargeDepth := 7) [go_sem]; done) | (simp (maxDischargeDepth := 7) [go_sem, *]; done))
        have hf1_0_1 : w1.cell? ⟨w.heap.size, 1, none⟩ = some (.int .i64 cY) := (ha _).trans (by first | with_reducible assumption | (simp (maxDischargeDepth := 7) [go_sem]; done) | (simp (maxDischargeDepth := 7) [go_sem, *]; done))
        have hf1_0_2 : w1.cell? ⟨w.heap.size, 2, none⟩ = some (.int .i64 r) := (ha _).trans (by first | with_reducible assumption | (simp (maxDischargeDepth := 7) [go_sem]; done) | (simp (maxDischargeDepth := 7) [go_sem, *]; done))
        have hf1_0_3 : w1.cell? ⟨w.heap.size, 3, none⟩ = some (.int .i64 fr) := (ha _).trans (by first | with_reducible assumption | (simp (maxDischargeDepth := 7) [go_sem]; done) | (simp (maxDischargeDepth := 7) [go_sem, *]; done))
        have hf1_0_4 : w1.cell? ⟨w.heap.size, 4, none⟩ = some (.int .i64 sw) := (ha _).trans (by first | with_reducible assumption | (simp (maxDischargeDepth := 7) [go_sem]; done) | (simp (maxDischargeDepth := 7) [go_sem, *]; done))
        try have hg1_0 : ∀ o, w1.frozen? ⟨w.heap.size, o, none⟩ = false := by intro o; rw [hb]; first | (simp (maxDischargeDepth := 7) [go_sem]; done) | (simp (maxDischargeDepth := 7) [go_sem, *]; done)
        clear ha hb
        go_wp2_with fail
        all_goals first | (go_ret; refine ⟨?_, (by repeat (first | with_reducible exact Kept.refl _ | with_reducible assumption | with_reducible refine Kept.setCell ?_ (by first | (simp; done) | (simp; omega) | omega) _ | with_reducible refine Kept.alloc ?_ _ | with_reducible refine Kept.drewN ?_ _ | with_reducible refine Kept.drew ?_ | with_reducible refine Kept.trans ?_ (by with_reducible assumption) | with_reducible refine Kept.dr ?_ (by with_reducible assumption)))⟩; first | rfl | (refine rf _ ?_; simp; done) | (refine rf _ ?_; simp; omega)) | (exfalso; omega)
    · replace hr : r < 1 ∨ 8000000 < r := by omega
      clear hh
      rcases hr with hr | hr
      all_goals
        have rf : ∀ b : Bool, b = false → Ending.returned (.bool b) = .returned (.bool false) := fun b h => by rw [h]
        go_enter Try.func21, Try.ntmps21
        go_wp2_with fail
        with_reducible refine (rpv_ok cX cY hc _).mono ?_
        rintro e w1 ⟨rfl, hk1⟩
        refine kuz (b := w.heap.size) hk1 (by first | (simp; done) | (simp; omega) | omega) ?_
        intro ha hb hz1_0 hn1_0 hm1_0
        have hf1_0_0 : w1.cell? ⟨w.heap.size, 0, none⟩ = some (.int .i64 cX) := (ha _).trans (by first | with_reducible assumption | (simp (maxDischargeDepth := 7) [go_sem]; done) | (simp (maxDischargeDepth := 7) [go_sem, *]; done))
        have hf1_0_1 : w1.cell? ⟨w.heap.size, 1, none⟩ = some (.int .i64 cY) := (ha _).trans (by first | with_reducible assumption | (simp (maxDischargeDepth := 7) [go_sem]; done) | (simp (maxDischargeDepth := 7) [go_sem, *]; done))
        have hf1_0_2 : w1.cell? ⟨w.heap.size, 2, none⟩ = some (.int .i64 r) := (ha _).trans (by first | with_reducible assumption | (simp (maxDischargeDepth := 7) [go_sem]; done) | (simp (maxDischargeDepth := 7) [go_sem, *]; done))
        have hf1_0_3 : w1.cell? ⟨w.heap.size, 3, none⟩ = some (.int .i64 fr) := (ha _).trans (by first | with_reducible assumption | (simp (maxDischargeDepth := 7) [go_sem]; done) | (simp (maxDischargeDepth := 7) [go_sem, *]; done))
        have hf1_0_4 : w1.cell? ⟨w.heap.size, 4, none⟩ = some (.int .i64 sw) := (ha _).trans (by first | with_reducible assumption | (simp (maxDischargeDepth := 7) [go_sem]; done) | (simp (maxDischargeDepth := 7) [go_sem, *]; done))
        try have hg1_0 : ∀ o, w1.frozen? ⟨w.heap.size, o, none⟩ = false := by intro o; rw [hb]; first | (simp (maxDischargeDepth := 7) [go_sem]; done) | (simp (maxDischargeDepth := 7) [go_sem, *]; done)
        clear ha hb
        go_wp2_with fail
        all_goals first | (go_ret; refine ⟨?_, (by repeat (first | with_reducible exact Kept.refl _ | with_reducible assumption | with_reducible refine Kept.setCell ?_ (by first | (simp; done) | (simp; omega) | omega) _ | with_reducible refine Kept.alloc ?_ _ | with_reducible refine Kept.drewN ?_ _ | with_reducible refine Kept.drew ?_ | with_reducible refine Kept.trans ?_ (by with_reducible assumption) | with_reducible refine Kept.dr ?_ (by with_reducible assumption)))⟩; first | rfl | (refine rf _ ?_; simp; done) | (refine rf _ ?_; simp; omega)) | (exfalso; omega)
theorem tmdr_w (a b c : Int) (a0 : -9223372036854775808 ≤ a) (a1 : a ≤ 9223372036854775807) (b0 : -9223372036854775808 ≤ b) (b1 : b ≤ 9223372036854775807) (c0 : -9223372036854775808 ≤ c) (c1 : c ≤ 9223372036854775807) (w : World) : Calls Try.prog 52 #[.int .i64 a, .int .i64 b, .int .i64 c] w fun e w' => e = .returned (.tuple #[.int .i64 (mqv 2 a b c), .int .i64 (mqe 2 a b c)]) ∧ Kept w w' := (muldivround_w a b c a0 a1 b0 b1 c0 c1 w).mono fun _ _ k => ⟨k.1, k.2.kept⟩
set_option maxHeartbeats 2000000 in
set_option maxRecDepth 100000 in
theorem length_ok (cX cY r fr sw : Int) (ha : arB cX cY r fr sw = true) (w : World) : Calls Try.prog 22 #[.agg #[.int .i64 cX, .int .i64 cY, .int .i64 r, .int .i64 fr, .int .i64 sw]] w fun e w' => e = .returned (.int .i64 (lnV r sw)) ∧ Kept w w' := by
  obtain ⟨hc, r0, r1, f0, f1, s0, s1⟩ := ar_yes ha
  obtain ⟨cX0, cX1, cY0, cY1⟩ := pok_yes hc
  obtain ⟨l0, l1, l2, l3, l4, l5⟩ := ln_fit r sw r0 r1 s0 s1
  have ib := iabs_lim sw 129600000 s0 s1
  obtain ⟨ib0, ib1⟩ := ib
  have m1 := fun w => tmdr_w r (iabs sw) 20626481 (by omega) (by omega) (by omega) (by omega) (by omega) (by omega) w
  rw [l2] at m1
  generalize mqe 2 r (iabs sw) 20626481 = EE at *
  have SA := fun w => sabs_w sw (by omega) (by omega) w
  generalize iabs sw = I at *
  have HM1 := Lib.hid m1
  have HSA := Lib.hid SA
  clear m1 SA
  go_enter Try.func22, Try.ntmps22
  go_wp2_with fail
  with_reducible refine (av_ok cX cY r fr sw ha _).mono ?_
  rintro e w1 ⟨rfl, hk1⟩
  refine kuz (b := w.heap.size) hk1 (by first | (simp; done) | (simp; omega) | omega) ?_
  intro ha hb hz1_0 hn1_0 hm1_0
  have hf1_0_0 : w1.cell? ⟨w.heap.size, 0, none⟩ = some (.int .i64 cX) := (ha _).trans (by first | with_reducible assumption | (simp (maxDischargeDepth := 7) [go_sem]; done) | (simp (maxDischargeDepth := 7) [go_sem, *]; done))
  have hf1_0_1 : w1.cell? ⟨w.heap.size, 1, none⟩ = some (.int .i64 cY) := (ha _).trans (by first | with_reducible assumption | (simp (maxDischargeDepth := 7) [go_sem]; done) | (simp (maxDischargeDepth := 7) [go_sem, *]; done))
  have hf1_0_2 : w1.cell? ⟨w.heap.size, 2, none⟩ = some (.int .i64 r) := (ha _).trans (by first | with_reducible assumption | (simp (maxDischargeDepth := 7) [go_sem]; done) | (simp (maxDischargeDepth := 7) [go_sem, *]; done))
  have hf1_0_3 : w1.cell? ⟨w.heap.size, 3, none⟩ = some (.int .i64 fr) := (ha _).trans (by first | with_reducible assumption | (simp (maxDischargeDepth := 7) [go_sem]; done) | (simp (maxDischargeDepth := 7) [go_sem, *]; done))
  have hf1_0_4 : w1.cell? ⟨w.heap.size, 4, none⟩ = some (.int .i64 sw) := (ha _).trans (by first | with_reducible assumption | (simp (maxDischargeDepth := 7) [go_sem]; done) | (simp (maxDischargeDepth := 7) [go_sem, *]; done))
  try have hg1_0 : ∀ o, w1.frozen? ⟨w.heap.size, o, none⟩ = false := by intro o; rw [hb]; first | (simp (maxDischargeDepth := 7) [go_sem]; done) | (simp (maxDischargeDepth := 7) [go_sem, *]; done)
  clear ha hb
  go_wp2_with fail
  go_region_held3 (fun W => W.cell? ⟨w.heap.size, 0, none⟩ = some (.int .i64 cX) ∧ W.cell? ⟨w.heap.size, 1, none⟩ = some (.int .i64 cY) ∧ W.cell? ⟨w.heap.size, 2, none⟩ = some (.int .i64 r) ∧ W.cell? ⟨w.heap.size, 3, none⟩ = some (.int .i64 fr) ∧ W.cell? ⟨w.heap.size, 4, none⟩ = some (.int .i64 sw)) (first | (go_keep; done) | (simp (maxDischargeDepth := 9) [*, World.cell?_alloc_some, World.cell?_setCell_far]; done) | (simp (maxDischargeDepth := 9) [go_sem, *]; done)) (first | (go_at_call 52; (first | with_reducible refine (HM1.out _).mono ?_); rintro e w' ⟨rfl, hk⟩; have hz := hk.size; (try (refine kuse (b := w.heap.size) hk (by first | (simp; done) | (simp; omega) | omega) ?_; intro hq0 hg0; have hy0 : w.heap.size < w'.heap.size := (by (try simp at hz); omega); have hn0 : ¬ w.heap.size = w'.heap.size := (by omega); have hm0 : ¬ w.heap.size = w'.heap.size + 1 := (by omega); refine withF (p := w'.cell? ⟨w.heap.size, 0, none⟩ = some (.int .i64 cX)) (by first | (rw [hq0]; with_reducible assumption) | (simp (maxDischargeDepth := 7) [go_sem, hq0]; done) | (simp (maxDischargeDepth := 7) [go_sem, hq0, *]; done) | fail) ?_; intro ff00; refine withF (p := w'.cell? ⟨w.heap.size, 1, none⟩ = some (.int .i64 cY)) (by first | (rw [hq0]; with_reducible assumption) | (simp (maxDischargeDepth := 7) [go_sem, hq0]; done) | (simp (maxDischargeDepth := 7) [go_sem, hq0, *]; done) | fail) ?_; intro ff01; refine withF (p := w'.cell? ⟨w.heap.size, 2, none⟩ = some (.int .i64 r)) (by first | (rw [hq0]; with_reducible assumption) | (simp (maxDischargeDepth := 7) [go_sem, hq0]; done) | (simp (maxDischargeDepth := 7) [go_sem, hq0, *]; done) | fail) ?_; intro ff02; refine withF (p := w'.cell? ⟨w.heap.size, 3, none⟩ = some (.int .i64 fr)) (by first | (rw [hq0]; with_reducible assumption) | (simp (maxDischargeDepth := 7) [go_sem, hq0]; done) | (simp (maxDischargeDepth := 7) [go_sem, hq0, *]; done) | fail) ?_; intro ff03; refine withF (p := w'.cell? ⟨w.heap.size, 4, none⟩ = some (.int .i64 sw)) (by first | (rw [hq0]; with_reducible assumption) | (simp (maxDischargeDepth := 7) [go_sem, hq0]; done) | (simp (maxDischargeDepth := 7) [go_sem, hq0, *]; done) | fail) ?_; intro ff04))) | (go_at_call 53; with_reducible refine (HSA.out _).mono ?_; rintro e w' ⟨rfl, rfl⟩))
  all_goals go_wp2_with fail
  all_goals go_ret
  all_goals exact ⟨rfl, (by repeat (first | with_reducible exact Kept.refl _ | with_reducible assumption | with_reducible refine Kept.setCell ?_ (by first | (simp; done) | (simp; omega) | omega) _ | with_reducible refine Kept.alloc ?_ _ | with_reducible refine Kept.drewN ?_ _ | with_reducible refine Kept.drew ?_ | with_reducible refine Kept.trans ?_ (by with_reducible assumption) | with_reducible refine Kept.dr ?_ (by with_reducible assumption)))⟩
set_option maxHeartbeats 2000000 in
set_option maxRecDepth 100000 in
theorem length_bad (cX cY r fr sw : Int) (h : arB cX cY r fr sw = false) (w : World) : Calls Try.prog 22 #[.agg #[.int .i64 cX, .int .i64 cY, .int .i64 r, .int .i64 fr, .int .i64 sw]] w fun e w' => e = .returned (.int .i64 0) ∧ Kept w w' := by
  go_enter Try.func22, Try.ntmps22
  go_wp2_with fail
  with_reducible refine (av_bad cX cY r fr sw h _).mono ?_
  rintro e w1 ⟨rfl, hk1⟩
  refine kuz (b := w.heap.size) hk1 (by first | (simp; done) | (simp; omega) | omega) ?_
  intro ha hb hz1_0 hn1_0 hm1_0
  have hf1_0_0 : w1.cell? ⟨w.heap.size, 0, none⟩ = some (.int .i64 cX) := (ha _).trans (by first | with_reducible assumption | (simp (maxDischargeDepth := 7) [go_sem]; done) | (simp (maxDischargeDepth := 7) [go_sem, *]; done))
  have hf1_0_1 : w1.cell? ⟨w.heap.size, 1, none⟩ = some (.int .i64 cY) := (ha _).trans (by first | with_reducible assumption | (simp (maxDischargeDepth := 7) [go_sem]; done) | (simp (maxDischargeDepth := 7) [go_sem, *]; done))
  have hf1_0_2 : w1.cell? ⟨w.heap.size, 2, none⟩ = some (.int .i64 r) := (ha _).trans (by first | with_reducible assumption | (simp (maxDischargeDepth := 7) [go_sem]; done) | (simp (maxDischargeDepth := 7) [go_sem, *]; done))
  have hf1_0_3 : w1.cell? ⟨w.heap.size, 3, none⟩ = some (.int .i64 fr) := (ha _).trans (by first | with_reducible assumption | (simp (maxDischargeDepth := 7) [go_sem]; done) | (simp (maxDischargeDepth := 7) [go_sem, *]; done))
  have hf1_0_4 : w1.cell? ⟨w.heap.size, 4, none⟩ = some (.int .i64 sw) := (ha _).trans (by first | with_reducible assumption | (simp (maxDischargeDepth := 7) [go_sem]; done) | (simp (maxDischargeDepth := 7) [go_sem, *]; done))
  try have hg1_0 : ∀ o, w1.frozen? ⟨w.heap.size, o, none⟩ = false := by intro o; rw [hb]; first | (simp (maxDischargeDepth := 7) [go_sem]; done) | (simp (maxDischargeDepth := 7) [go_sem, *]; done)
  clear ha hb
  go_wp2_with fail
  all_goals go_ret
  all_goals exact ⟨rfl, (by repeat (first | with_reducible exact Kept.refl _ | with_reducible assumption | with_reducible refine Kept.setCell ?_ (by first | (simp; done) | (simp; omega) | omega) _ | with_reducible refine Kept.alloc ?_ _ | with_reducible refine Kept.drewN ?_ _ | with_reducible refine Kept.drew ?_ | with_reducible refine Kept.trans ?_ (by with_reducible assumption) | with_reducible refine Kept.dr ?_ (by with_reducible assumption)))⟩
set_option maxHeartbeats 2000000 in
set_option maxRecDepth 100000 in
theorem ref_length_ok (cX cY r fr sw : Int) (ha : arB cX cY r fr sw = true) (w : World) : Calls Try.prog 23 #[.agg #[.int .i64 cX, .int .i64 cY, .int .i64 r, .int .i64 fr, .int .i64 sw]] w fun e w' => e = .returned (.int .i64 (lnV r sw)) ∧ Kept w w' := by
  obtain ⟨hc, r0, r1, f0, f1, s0, s1⟩ := ar_yes ha
  obtain ⟨cX0, cX1, cY0, cY1⟩ := pok_yes hc
  obtain ⟨l0, l1, l2, l3, l4, l5⟩ := ln_fit r sw r0 r1 s0 s1
  have ib := iabs_lim sw 129600000 s0 s1
  obtain ⟨ib0, ib1⟩ := ib
  have wr : IntKind.i64.wrap (r * iabs sw) = r * iabs sw := IntWalk.i64_in _ (by omega)
  have m1 := fun w => ref_round_w (r * iabs sw) 20626481 (by omega) (by omega) (by omega) (by omega) w
  rw [l3] at m1
  generalize mqe 2 (r * iabs sw) 1 20626481 = EE at *
  have SA := fun w => rsize_w sw (by omega) (by omega) w
  generalize iabs sw = I at *
  have HM1 := Lib.hid m1
  have HSA := Lib.hid SA
  clear m1 SA
  go_enter Try.func23, Try.ntmps23
  go_wp2_with fail
  with_reducible refine (rav_ok cX cY r fr sw ha _).mono ?_
  rintro e w1 ⟨rfl, hk1⟩
  refine kuz (b := w.heap.size) hk1 (by first | (simp; done) | (simp; omega) | omega) ?_
  intro ha hb hz1_0 hn1_0 hm1_0
  have hf1_0_0 : w1.cell? ⟨w.heap.size, 0, none⟩ = some (.int .i64 cX) := (ha _).trans (by first | with_reducible assumption | (simp (maxDischargeDepth := 7) [go_sem]; done) | (simp (maxDischargeDepth := 7) [go_sem, *]; done))
  have hf1_0_1 : w1.cell? ⟨w.heap.size, 1, none⟩ = some (.int .i64 cY) := (ha _).trans (by first | with_reducible assumption | (simp (maxDischargeDepth := 7) [go_sem]; done) | (simp (maxDischargeDepth := 7) [go_sem, *]; done))
  have hf1_0_2 : w1.cell? ⟨w.heap.size, 2, none⟩ = some (.int .i64 r) := (ha _).trans (by first | with_reducible assumption | (simp (maxDischargeDepth := 7) [go_sem]; done) | (simp (maxDischargeDepth := 7) [go_sem, *]; done))
  have hf1_0_3 : w1.cell? ⟨w.heap.size, 3, none⟩ = some (.int .i64 fr) := (ha _).trans (by first | with_reducible assumption | (simp (maxDischargeDepth := 7) [go_sem]; done) | (simp (maxDischargeDepth := 7) [go_sem, *]; done))
  have hf1_0_4 : w1.cell? ⟨w.heap.size, 4, none⟩ = some (.int .i64 sw) := (ha _).trans (by first | with_reducible assumption | (simp (maxDischargeDepth := 7) [go_sem]; done) | (simp (maxDischargeDepth := 7) [go_sem, *]; done))
  try have hg1_0 : ∀ o, w1.frozen? ⟨w.heap.size, o, none⟩ = false := by intro o; rw [hb]; first | (simp (maxDischargeDepth := 7) [go_sem]; done) | (simp (maxDischargeDepth := 7) [go_sem, *]; done)
  clear ha hb
  go_wp2_with fail
  go_region_held3 (fun W => W.cell? ⟨w.heap.size, 0, none⟩ = some (.int .i64 cX) ∧ W.cell? ⟨w.heap.size, 1, none⟩ = some (.int .i64 cY) ∧ W.cell? ⟨w.heap.size, 2, none⟩ = some (.int .i64 r) ∧ W.cell? ⟨w.heap.size, 3, none⟩ = some (.int .i64 fr) ∧ W.cell? ⟨w.heap.size, 4, none⟩ = some (.int .i64 sw)) (first | (go_keep; done) | (simp (maxDischargeDepth := 9) [*, World.cell?_alloc_some, World.cell?_setCell_far]; done) | (simp (maxDischargeDepth := 9) [go_sem, *]; done)) (first | (go_at_call 55; with_reducible refine (HSA.out _).mono ?_; rintro e w' ⟨rfl, rfl⟩) | (go_at_call 54; with_reducible refine (HM1.out _).mono ?_; rintro e w' ⟨rfl, rfl⟩))
  all_goals go_wp2_with fail
  all_goals go_ret
  all_goals exact ⟨rfl, (by repeat (first | with_reducible exact Kept.refl _ | with_reducible assumption | with_reducible refine Kept.setCell ?_ (by first | (simp; done) | (simp; omega) | omega) _ | with_reducible refine Kept.alloc ?_ _ | with_reducible refine Kept.drewN ?_ _ | with_reducible refine Kept.drew ?_ | with_reducible refine Kept.trans ?_ (by with_reducible assumption) | with_reducible refine Kept.dr ?_ (by with_reducible assumption)))⟩
set_option maxHeartbeats 2000000 in
set_option maxRecDepth 100000 in
theorem ref_length_bad (cX cY r fr sw : Int) (h : arB cX cY r fr sw = false) (w : World) : Calls Try.prog 23 #[.agg #[.int .i64 cX, .int .i64 cY, .int .i64 r, .int .i64 fr, .int .i64 sw]] w fun e w' => e = .returned (.int .i64 0) ∧ Kept w w' := by
  go_enter Try.func23, Try.ntmps23
  go_wp2_with fail
  with_reducible refine (rav_bad cX cY r fr sw h _).mono ?_
  rintro e w1 ⟨rfl, hk1⟩
  refine kuz (b := w.heap.size) hk1 (by first | (simp; done) | (simp; omega) | omega) ?_
  intro ha hb hz1_0 hn1_0 hm1_0
  have hf1_0_0 : w1.cell? ⟨w.heap.size, 0, none⟩ = some (.int .i64 cX) := (ha _).trans (by first | with_reducible assumption | (simp (maxDischargeDepth := 7) [go_sem]; done) | (simp (maxDischargeDepth := 7) [go_sem, *]; done))
  have hf1_0_1 : w1.cell? ⟨w.heap.size, 1, none⟩ = some (.int .i64 cY) := (ha _).trans (by first | with_reducible assumption | (simp (maxDischargeDepth := 7) [go_sem]; done) | (simp (maxDischargeDepth := 7) [go_sem, *]; done))
  have hf1_0_2 : w1.cell? ⟨w.heap.size, 2, none⟩ = some (.int .i64 r) := (ha _).trans (by first | with_reducible assumption | (simp (maxDischargeDepth := 7) [go_sem]; done) | (simp (maxDischargeDepth := 7) [go_sem, *]; done))
  have hf1_0_3 : w1.cell? ⟨w.heap.size, 3, none⟩ = some (.int .i64 fr) := (ha _).trans (by first | with_reducible assumption | (simp (maxDischargeDepth := 7) [go_sem]; done) | (simp (maxDischargeDepth := 7) [go_sem, *]; done))
  have hf1_0_4 : w1.cell? ⟨w.heap.size, 4, none⟩ = some (.int .i64 sw) := (ha _).trans (by first | with_reducible assumption | (simp (maxDischargeDepth := 7) [go_sem]; done) | (simp (maxDischargeDepth := 7) [go_sem, *]; done))
  try have hg1_0 : ∀ o, w1.frozen? ⟨w.heap.size, o, none⟩ = false := by intro o; rw [hb]; first | (simp (maxDischargeDepth := 7) [go_sem]; done) | (simp (maxDischargeDepth := 7) [go_sem, *]; done)
  clear ha hb
  go_wp2_with fail
  all_goals go_ret
  all_goals exact ⟨rfl, (by repeat (first | with_reducible exact Kept.refl _ | with_reducible assumption | with_reducible refine Kept.setCell ?_ (by first | (simp; done) | (simp; omega) | omega) _ | with_reducible refine Kept.alloc ?_ _ | with_reducible refine Kept.drewN ?_ _ | with_reducible refine Kept.drew ?_ | with_reducible refine Kept.trans ?_ (by with_reducible assumption) | with_reducible refine Kept.dr ?_ (by with_reducible assumption)))⟩

end Go.Proofs.Ytfnhnlnofglkoaa
