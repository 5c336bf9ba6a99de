/-
  Own contracts: package line and the document's answers of layer 11: radii, rates, bank angles.
-/
import Derived.Test.YtfnhnlnofglkoaaTura
import Derived.WalkKit
import Derived.ProofKit
import Derived.OpenShut
import Derived.WalkLawsBesides
import Derived.WalkSpells
import Derived.Lib.Hide
import Derived.Deep.DeepCutAuto
import Derived.Deep.CutBlock
import Derived.Deep.QuietTactic
import Derived.BigQuiet
import Derived.Handy
import Derived.StillTailTactics
import Derived.IntWalk
import Derived.LoopN
import Derived.Deep.RegionHeld3
namespace Go.Proofs.Ytfnhnlnofglkoaa
open Go.ChangeShapes Go.WideShapes Go.ChangeAt Go.RowKit
set_option linter.unusedVariables false
set_option linter.unusedSimpArgs false
def rdE (v b : Int) : Int := if 1 ≤ v ∧ v ≤ 1000 ∧ 1 ≤ b ∧ b ≤ 3000 ∧ rdV v b ≤ 8000000 then 0 else 2
def rdR (v b : Int) : Int := if rdE v b = 0 then rdV v b else 0
def rtE (v b : Int) : Int := if 1 ≤ v ∧ v ≤ 1000 ∧ 1 ≤ b ∧ b ≤ 3000 then mqe 0 20626481000000 (sinV (b * 3600)) (87431 * v * cosV (b * 3600)) else 2
def rtV (v b : Int) : Int := if 1 ≤ v ∧ v ≤ 1000 ∧ 1 ≤ b ∧ b ≤ 3000 then mqv 0 20626481000000 (sinV (b * 3600)) (87431 * v * cosV (b * 3600)) else 0
theorem tmdu_w (a b c : Int) (a0 : -9223372036854775808 ≤ a) (a1 : a ≤ 9223372036854775807) (b0 : -9223372036854775808 ≤ b) (b1 : b ≤ 9223372036854775807) (c0 : -9223372036854775808 ≤ c) (c1 : c ≤ 9223372036854775807) (w : World) : Calls Try.prog 41 #[.int .i64 a, .int .i64 b, .int .i64 c] w fun e w' => e = .returned (.tuple #[.int .i64 (mqv 1 a b c), .int .i64 (mqe 1 a b c)]) ∧ Kept w w' := (muldivup_w a b c a0 a1 b0 b1 c0 c1 w).mono fun _ _ k => ⟨k.1, k.2.kept⟩
theorem tmdd_w (a b c : Int) (a0 : -9223372036854775808 ≤ a) (a1 : a ≤ 9223372036854775807) (b0 : -9223372036854775808 ≤ b) (b1 : b ≤ 9223372036854775807) (c0 : -9223372036854775808 ≤ c) (c1 : c ≤ 9223372036854775807) (w : World) : Calls Try.prog 46 #[.int .i64 a, .int .i64 b, .int .i64 c] w fun e w' => e = .returned (.tuple #[.int .i64 (mqv 0 a b c), .int .i64 (mqe 0 a b c)]) ∧ Kept w w' := (muldiv_w a b c a0 a1 b0 b1 c0 c1 w).mono fun _ _ k => ⟨k.1, k.2.kept⟩
set_option maxHeartbeats 2000000 in
set_option maxRecDepth 100000 in
theorem moving_ok (v b : Int) (v0 : 1 ≤ v) (v1 : v ≤ 1000) (b0 : 1 ≤ b) (b1 : b ≤ 3000) (w : World) : Calls Try.prog 42 #[.int .i64 v, .int .i64 b] w fun e w' => e = .returned (.bool true) ∧ w = w' := by
  go_enter Try.func42, Try.ntmps42
  go_wp2
  all_goals first | (go_ret; refine ⟨?_, rfl⟩; first | rfl | (refine retb ?_; simp; done) | (refine retb ?_; simp; omega)) | (exfalso; omega)
set_option maxHeartbeats 2000000 in
set_option maxRecDepth 100000 in
theorem moving_bad (v b : Int) (h : v < 1 ∨ 1000 < v ∨ b < 1 ∨ 3000 < b) (w : World) : Calls Try.prog 42 #[.int .i64 v, .int .i64 b] w fun e w' => e = .returned (.bool false) ∧ w = w' := by
  have rf : ∀ b : Bool, b = false → Ending.returned (.bool b) = .returned (.bool false) := fun b h => by rw [h]
  rcases h with h | h | h | h
  all_goals
    go_enter Try.func42, Try.ntmps42
    go_wp2
    all_goals first | (go_ret; refine ⟨?_, rfl⟩; first | rfl | (refine rf _ ?_; simp; done) | (refine rf _ ?_; simp; omega)) | (exfalso; omega)
set_option maxHeartbeats 4000000 in
set_option maxRecDepth 100000 in
theorem radius_w (v b : Int) (v_0 : -9223372036854775808 ≤ v) (v_1 : v ≤ 9223372036854775807) (b_0 : -9223372036854775808 ≤ b) (b_1 : b ≤ 9223372036854775807) (w : World) : Calls Try.prog 15 #[.int .i64 v, .int .i64 b] w fun e w' => e = .returned (.tuple #[.int .i64 (rdR v b), .int .i64 (rdE v b)]) ∧ Kept w w' := by
  by_cases hv : 1 ≤ v ∧ v ≤ 1000
  · by_cases hb : 1 ≤ b ∧ b ≤ 3000
    · have sc := bank_sc b hb.1 hb.2
      have vv := mul_sb2 v v 1000 1000 (by omega) (by omega) (by omega) (by omega)
      have vn := sq_nneg v
      obtain ⟨rf0, rf1, rf2⟩ := rd_fit v b hv.1 hv.2 hb.1 hb.2
      have MD := fun w => tmdu_w (v * v * 87431) (cosV (b * 3600)) (1000000 * sinV (b * 3600)) (by omega) (by omega) (by omega) (by omega) (by omega) (by omega) w
      rw [rf0] at MD
      have rv : mqv 1 (v * v * 87431) (cosV (b * 3600)) (1000000 * sinV (b * 3600)) = rdV v b := rfl
      rw [rv] at MD
      clear rv rf0
      have wr1 : IntKind.i64.wrap (v * v) = v * v := IntWalk.i64_in _ (by omega)
      have wr2 : IntKind.i64.wrap (v * v * 87431) = v * v * 87431 := IntWalk.i64_in _ (by omega)
      have wr3 : IntKind.i64.wrap (1000000 * sinV (b * 3600)) = 1000000 * sinV (b * 3600) := IntWalk.i64_in _ (by omega)
      have ev : rdE v b = if rdV v b ≤ 8000000 then 0 else 2 := by
        unfold rdE
        by_cases h : rdV v b ≤ 8000000
        · rw [if_pos h, if_pos ⟨hv.1, hv.2, hb.1, hb.2, h⟩]
        · rw [if_neg h, if_neg (fun g => h g.2.2.2.2)]
      have er : rdR v b = if rdV v b ≤ 8000000 then rdV v b else 0 := by
        unfold rdR; rw [ev]; split <;> rfl
      rw [ev, er]
      clear ev er
      generalize rdV v b = D at *
      have SN := fun w => sin_w (b * 3600) (by omega) (by omega) w
      have CS := fun w => cos_w (b * 3600) (by omega) (by omega) w
      generalize sinV (b * 3600) = S at *
      generalize cosV (b * 3600) = C at *
      have HMD := Lib.hid MD
      have HSN := Lib.hid SN
      have HCS := Lib.hid CS
      clear MD SN CS
      by_cases hD : D ≤ 8000000
      · rw [if_pos hD, if_pos hD]
        go_enter Try.func15, Try.ntmps15
        go_wp2_with fail
        with_reducible refine (vsp_ok v hv.1 hv.2 _).mono ?_
        rintro e w' ⟨rfl, rfl⟩
        go_wp2_with fail
        with_reducible refine (HSN.out _).mono ?_
        rintro e w2 ⟨rfl, hk2⟩
        go_wp2_with fail
        with_reducible refine (HCS.out _).mono ?_
        rintro e w3 ⟨rfl, hk3⟩
        go_wp2_with fail
        with_reducible refine (HMD.out _).mono ?_
        rintro e w4 ⟨rfl, hk4⟩
        go_wp2_with fail
        all_goals exact bodyPost_ret (v := .tuple #[.int .i64 D, .int .i64 0]) (by first | (simp [results, Try.results15, go_sem]; done) | (simp (maxDischargeDepth := 7) [results, Try.results15, go_sem, *]; done)) rfl ⟨rfl, (by repeat (first | with_reducible exact Kept.refl _ | with_reducible assumption | with_reducible refine Kept.setCell ?_ (by first | (simp; done) | (simp; omega) | omega) _ | with_reducible refine Kept.alloc ?_ _ | with_reducible refine Kept.drewN ?_ _ | with_reducible refine Kept.drew ?_ | with_reducible refine Kept.trans ?_ (by with_reducible assumption) | with_reducible refine Kept.dr ?_ (by with_reducible assumption)))⟩

      · rw [if_neg hD, if_neg hD]
        go_enter Try.func15, Try.ntmps15
        go_wp2_with fail
        with_reducible refine (vsp_ok v hv.1 hv.2 _).mono ?_
        rintro e w' ⟨rfl, rfl⟩
        go_wp2_with fail
        with_reducible refine (HSN.out _).mono ?_
        rintro e w2 ⟨rfl, hk2⟩
        go_wp2_with fail
        with_reducible refine (HCS.out _).mono ?_
        rintro e w3 ⟨rfl, hk3⟩
        go_wp2_with fail
        with_reducible refine (HMD.out _).mono ?_
        rintro e w4 ⟨rfl, hk4⟩
        go_wp2_with fail
        all_goals exact bodyPost_ret (v := .tuple #[.int .i64 0, .int .i64 2]) (by first | (simp [results, Try.results15, go_sem]; done) | (simp (maxDischargeDepth := 7) [results, Try.results15, go_sem, *]; done)) rfl ⟨rfl, (by repeat (first | with_reducible exact Kept.refl _ | with_reducible assumption | with_reducible refine Kept.setCell ?_ (by first | (simp; done) | (simp; omega) | omega) _ | with_reducible refine Kept.alloc ?_ _ | with_reducible refine Kept.drewN ?_ _ | with_reducible refine Kept.drew ?_ | with_reducible refine Kept.trans ?_ (by with_reducible assumption) | with_reducible refine Kept.dr ?_ (by with_reducible assumption)))⟩
    · replace hb : b < 1 ∨ 3000 < b := by omega
      rcases hb with hb | hb
      all_goals
        have e0 : rdE v b = 2 := by unfold rdE; rw [if_neg]; omega
        have e1 : rdR v b = 0 := by unfold rdR; rw [e0]; rfl
        rw [e0, e1]
        clear e0 e1
        go_enter Try.func15, Try.ntmps15
        go_wp2_with fail
        with_reducible refine (vsp_ok v hv.1 hv.2 _).mono ?_
        rintro e w' ⟨rfl, rfl⟩
        go_wp2_with fail
        all_goals exact bodyPost_ret (v := .tuple #[.int .i64 0, .int .i64 2]) (by first | (simp [results, Try.results15, go_sem]; done) | (simp (maxDischargeDepth := 7) [results, Try.results15, go_sem, *]; done)) rfl ⟨rfl, Kept.refl _⟩
  · replace hv : v < 1 ∨ 1000 < v := by omega
    have e0 : rdE v b = 2 := by unfold rdE; rw [if_neg]; omega
    have e1 : rdR v b = 0 := by unfold rdR; rw [e0]; rfl
    rw [e0, e1]
    clear e0 e1
    go_enter Try.func15, Try.ntmps15
    go_wp2_with fail
    with_reducible refine (vsp_bad v hv _).mono ?_
    rintro e w' ⟨rfl, rfl⟩
    go_wp2_with fail
    all_goals exact bodyPost_ret (v := .tuple #[.int .i64 0, .int .i64 2]) (by first | (simp [results, Try.results15, go_sem]; done) | (simp (maxDischargeDepth := 7) [results, Try.results15, go_sem, *]; done)) rfl ⟨rfl, Kept.refl _⟩
set_option maxHeartbeats 4000000 in
set_option maxRecDepth 100000 in
theorem rate_w (v b : Int) (v_0 : -9223372036854775808 ≤ v) (v_1 : v ≤ 9223372036854775807) (b_0 : -9223372036854775808 ≤ b) (b_1 : b ≤ 9223372036854775807) (w : World) : Calls Try.prog 17 #[.int .i64 v, .int .i64 b] w fun e w' => e = .returned (.tuple #[.int .i64 (rtV v b), .int .i64 (rtE v b)]) ∧ Kept w w' := by
  by_cases hv : 1 ≤ v ∧ v ≤ 1000
  · by_cases hb : 1 ≤ b ∧ b ≤ 3000
    · have sc := bank_sc b hb.1 hb.2
      have vv := mul_sb2 v v 1000 1000 (by omega) (by omega) (by omega) (by omega)
      have vn := sq_nneg v
      have mb := mul_sb2 (87431 * v) (cosV (b * 3600)) 87431000 1073741824 (by omega) (by omega) (by omega) (by omega)
      have MD := fun w => tmdd_w 20626481000000 (sinV (b * 3600)) (87431 * v * cosV (b * 3600)) (by omega) (by omega) (by omega) (by omega) (by omega) (by omega) w
      have ev : rtE v b = mqe 0 20626481000000 (sinV (b * 3600)) (87431 * v * cosV (b * 3600)) := by unfold rtE; rw [if_pos ⟨hv.1, hv.2, hb.1, hb.2⟩]
      have er : rtV v b = mqv 0 20626481000000 (sinV (b * 3600)) (87431 * v * cosV (b * 3600)) := by unfold rtV; rw [if_pos ⟨hv.1, hv.2, hb.1, hb.2⟩]
      rw [ev, er]
      clear ev er
      have wr1 : IntKind.i64.wrap (87431 * v * cosV (b * 3600)) = 87431 * v * cosV (b * 3600) := IntWalk.i64_in _ (by omega)
      have wr2 : IntKind.i64.wrap (87431 * v) = 87431 * v := IntWalk.i64_in _ (by omega)
      generalize mqe 0 20626481000000 (sinV (b * 3600)) (87431 * v * cosV (b * 3600)) = ME at *
      generalize mqv 0 20626481000000 (sinV (b * 3600)) (87431 * v * cosV (b * 3600)) = MV at *
      have SN := fun w => sin_w (b * 3600) (by omega) (by omega) w
      have CS := fun w => cos_w (b * 3600) (by omega) (by omega) w
      generalize sinV (b * 3600) = S at *
      generalize cosV (b * 3600) = C at *
      have HMD := Lib.hid MD
      have HSN := Lib.hid SN
      have HCS := Lib.hid CS
      clear MD SN CS
      go_enter Try.func17, Try.ntmps17
      go_wp2_with fail
      with_reducible refine (vsp_ok v hv.1 hv.2 _).mono ?_
      rintro e w' ⟨rfl, rfl⟩
      go_wp2_with fail
      with_reducible refine (HSN.out _).mono ?_
      rintro e w2 ⟨rfl, hk2⟩
      go_wp2_with fail
      with_reducible refine (HCS.out _).mono ?_
      rintro e w3 ⟨rfl, hk3⟩
      go_wp2_with fail
      with_reducible refine (HMD.out _).mono ?_
      rintro e w4 ⟨rfl, hk4⟩
      go_wp2_with fail
      all_goals exact bodyPost_ret (v := .tuple #[.int .i64 MV, .int .i64 ME]) (by first | (simp [results, Try.results17, go_sem]; done) | (simp (maxDischargeDepth := 7) [results, Try.results17, go_sem, *]; done)) rfl ⟨rfl, (by repeat (first | with_reducible exact Kept.refl _ | with_reducible assumption | with_reducible refine Kept.setCell ?_ (by first | (simp; done) | (simp; omega) | omega) _ | with_reducible refine Kept.alloc ?_ _ | with_reducible refine Kept.drewN ?_ _ | with_reducible refine Kept.drew ?_ | with_reducible refine Kept.trans ?_ (by with_reducible assumption) | with_reducible refine Kept.dr ?_ (by with_reducible assumption)))⟩
    · replace hb : b < 1 ∨ 3000 < b := by omega
      rcases hb with hb | hb
      all_goals
        have e0 : rtE v b = 2 := by unfold rtE; rw [if_neg]; omega
        have e1 : rtV v b = 0 := by unfold rtV; rw [if_neg]; omega
        rw [e0, e1]
        clear e0 e1
        go_enter Try.func17, Try.ntmps17
        go_wp2_with fail
        with_reducible refine (vsp_ok v hv.1 hv.2 _).mono ?_
        rintro e w' ⟨rfl, rfl⟩
        go_wp2_with fail
        all_goals exact bodyPost_ret (v := .tuple #[.int .i64 0, .int .i64 2]) (by first | (simp [results, Try.results17, go_sem]; done) | (simp (maxDischargeDepth := 7) [results, Try.results17, go_sem, *]; done)) rfl ⟨rfl, Kept.refl _⟩
  · replace hv : v < 1 ∨ 1000 < v := by omega
    have e0 : rtE v b = 2 := by unfold rtE; rw [if_neg]; omega
    have e1 : rtV v b = 0 := by unfold rtV; rw [if_neg]; omega
    rw [e0, e1]
    clear e0 e1
    go_enter Try.func17, Try.ntmps17
    go_wp2_with fail
    with_reducible refine (vsp_bad v hv _).mono ?_
    rintro e w' ⟨rfl, rfl⟩
    go_wp2_with fail
    all_goals exact bodyPost_ret (v := .tuple #[.int .i64 0, .int .i64 2]) (by first | (simp [results, Try.results17, go_sem]; done) | (simp (maxDischargeDepth := 7) [results, Try.results17, go_sem, *]; done)) rfl ⟨rfl, Kept.refl _⟩
def ftB (v b r : Int) : Bool := decide (rdE v b = 0 ∧ rdR v b ≤ r)
theorem rdE_cases (v b : Int) : rdE v b = 0 ∨ (rdE v b = 2 ∧ rdR v b = 0) := by
  by_cases h : rdE v b = 0
  · exact Or.inl h
  · refine Or.inr ⟨?_, by unfold rdR; rw [if_neg h]⟩
    unfold rdE at h ⊢
    split at h
    · exact absurd rfl h
    · rename_i g; rw [if_neg g]
set_option maxHeartbeats 2000000 in
set_option maxRecDepth 100000 in
theorem fits_w (v b r : Int) (v_0 : -9223372036854775808 ≤ v) (v_1 : v ≤ 9223372036854775807) (b_0 : -9223372036854775808 ≤ b) (b_1 : b ≤ 9223372036854775807) (w : World) : Calls Try.prog 49 #[.int .i64 v, .int .i64 b, .int .i64 r] w fun e w' => e = .returned (.bool (ftB v b r)) ∧ Kept w w' := by
  rcases rdE_cases v b with h | h
  · have RW := fun w => radius_w v b v_0 v_1 b_0 b_1 w
    have fb : ftB v b r = decide (rdR v b ≤ r) := by unfold ftB; rw [h]; simp
    rw [fb]
    clear fb
    rw [h] at RW
    clear h
    generalize rdR v b = D at *
    have HRW := Lib.hid RW
    clear RW
    go_enter Try.func49, Try.ntmps49
    go_wp2_with fail
    with_reducible refine (HRW.out _).mono ?_
    rintro e w1 ⟨rfl, hk1⟩
    go_wp2_with fail
    all_goals go_ret
    all_goals exact ⟨rfl, (by repeat (first | with_reducible exact Kept.refl _ | with_reducible assumption | with_reducible refine Kept.setCell ?_ (by first | (simp; done) | (simp; omega) | omega) _ | with_reducible refine Kept.alloc ?_ _ | with_reducible refine Kept.drewN ?_ _ | with_reducible refine Kept.drew ?_ | with_reducible refine Kept.trans ?_ (by with_reducible assumption) | with_reducible refine Kept.dr ?_ (by with_reducible assumption)))⟩
  · have RW := fun w => radius_w v b v_0 v_1 b_0 b_1 w
    have fb : ftB v b r = false := by unfold ftB; rw [h.1]; simp
    rw [fb]
    clear fb
    rw [h.1, h.2] at RW
    clear h
    have HRW := Lib.hid RW
    clear RW
    go_enter Try.func49, Try.ntmps49
    go_wp2_with fail
    with_reducible refine (HRW.out _).mono ?_
    rintro e w1 ⟨rfl, hk1⟩
    go_wp2_with fail
    all_goals go_ret
    all_goals exact ⟨rfl, (by repeat (first | with_reducible exact Kept.refl _ | with_reducible assumption | with_reducible refine Kept.setCell ?_ (by first | (simp; done) | (simp; omega) | omega) _ | with_reducible refine Kept.alloc ?_ _ | with_reducible refine Kept.drewN ?_ _ | with_reducible refine Kept.drew ?_ | with_reducible refine Kept.trans ?_ (by with_reducible assumption) | with_reducible refine Kept.dr ?_ (by with_reducible assumption)))⟩
set_option maxHeartbeats 4000000 in
set_option maxRecDepth 100000 in
theorem ref_radius_w (v b : Int) (v_0 : -9223372036854775808 ≤ v) (v_1 : v ≤ 9223372036854775807) (b_0 : -9223372036854775808 ≤ b) (b_1 : b ≤ 9223372036854775807) (w : World) : Calls Try.prog 16 #[.int .i64 v, .int .i64 b] w fun e w' => e = .returned (.tuple #[.int .i64 (rdR v b), .int .i64 (rdE v b)]) ∧ Kept w w' := by
  by_cases hr : 1 ≤ v ∧ v ≤ 1000 ∧ 1 ≤ b ∧ b ≤ 3000
  · obtain ⟨v0, v1, b0, b1⟩ := hr
    have hv : 1 ≤ v ∧ v ≤ 1000 := ⟨v0, v1⟩
    have hb : 1 ≤ b ∧ b ≤ 3000 := ⟨b0, b1⟩
    have sc := bank_sc b hb.1 hb.2
    have vv := mul_sb2 v v 1000 1000 (by omega) (by omega) (by omega) (by omega)
    have vn := sq_nneg v
    obtain ⟨rf0, rf1, rf2⟩ := rd_fit v b hv.1 hv.2 hb.1 hb.2
    have MD := fun w => ref_muldivup_w (v * v * 87431) (cosV (b * 3600)) (1000000 * sinV (b * 3600)) (by omega) (by omega) (by omega) (by omega) (by omega) (by omega) w
    rw [rf0] at MD
    have rv : mqv 1 (v * v * 87431) (cosV (b * 3600)) (1000000 * sinV (b * 3600)) = rdV v b := rfl
    rw [rv] at MD
    clear rv rf0
    have wr1 : IntKind.i64.wrap (v * v) = v * v := IntWalk.i64_in _ (by omega)
    have wr2 : IntKind.i64.wrap (v * v * 87431) = v * v * 87431 := IntWalk.i64_in _ (by omega)
    have wr3 : IntKind.i64.wrap (1000000 * sinV (b * 3600)) = 1000000 * sinV (b * 3600) := IntWalk.i64_in _ (by omega)
    have ev : rdE v b = if rdV v b ≤ 8000000 then 0 else 2 := by
      unfold rdE
      by_cases h : rdV v b ≤ 8000000
      · rw [if_pos h, if_pos ⟨hv.1, hv.2, hb.1, hb.2, h⟩]
      · rw [if_neg h, if_neg (fun g => h g.2.2.2.2)]
    have er : rdR v b = if rdV v b ≤ 8000000 then rdV v b else 0 := by
      unfold rdR; rw [ev]; split <;> rfl
    rw [ev, er]
    clear ev er
    generalize rdV v b = D at *
    have SN := fun w => ref_sin_w (b * 3600) (by omega) (by omega) w
    have CS := fun w => ref_cos_w (b * 3600) (by omega) (by omega) w
    generalize sinV (b * 3600) = S at *
    generalize cosV (b * 3600) = C at *
    have HMD := Lib.hid MD
    have HSN := Lib.hid SN
    have HCS := Lib.hid CS
    clear MD SN CS
    by_cases hD : D ≤ 8000000
    · rw [if_pos hD, if_pos hD]
      go_enter Try.func16, Try.ntmps16
      go_wp2_with fail
      with_reducible refine (moving_ok v b hv.1 hv.2 hb.1 hb.2 _).mono ?_
      rintro e w' ⟨rfl, rfl⟩
      go_wp2_with fail
      with_reducible refine (HCS.out _).mono ?_
      rintro e w' ⟨rfl, rfl⟩
      go_wp2_with fail
      with_reducible refine (HSN.out _).mono ?_
      rintro e w' ⟨rfl, rfl⟩
      go_wp2_with fail
      with_reducible refine (HMD.out _).mono ?_
      rintro e w' ⟨rfl, rfl⟩
      go_wp2_with fail
      all_goals exact bodyPost_ret (v := .tuple #[.int .i64 D, .int .i64 0]) (by first | (simp [results, Try.results16, go_sem]; done) | (simp (maxDischargeDepth := 7) [results, Try.results16, go_sem, *]; done)) rfl ⟨rfl, (by repeat (first | with_reducible exact Kept.refl _ | with_reducible assumption | with_reducible refine Kept.setCell ?_ (by first | (simp; done) | (simp; omega) | omega) _ | with_reducible refine Kept.alloc ?_ _ | with_reducible refine Kept.drewN ?_ _ | with_reducible refine Kept.drew ?_ | with_reducible refine Kept.trans ?_ (by with_reducible assumption) | with_reducible refine Kept.dr ?_ (by with_reducible assumption)))⟩

    · rw [if_neg hD, if_neg hD]
      go_enter Try.func16, Try.ntmps16
      go_wp2_with fail
      with_reducible refine (moving_ok v b hv.1 hv.2 hb.1 hb.2 _).mono ?_
      rintro e w' ⟨rfl, rfl⟩
      go_wp2_with fail
      with_reducible refine (HCS.out _).mono ?_
      rintro e w' ⟨rfl, rfl⟩
      go_wp2_with fail
      with_reducible refine (HSN.out _).mono ?_
      rintro e w' ⟨rfl, rfl⟩
      go_wp2_with fail
      with_reducible refine (HMD.out _).mono ?_
      rintro e w' ⟨rfl, rfl⟩
      go_wp2_with fail
      all_goals exact bodyPost_ret (v := .tuple #[.int .i64 0, .int .i64 2]) (by first | (simp [results, Try.results16, go_sem]; done) | (simp (maxDischargeDepth := 7) [results, Try.results16, go_sem, *]; done)) rfl ⟨rfl, (by repeat (first | with_reducible exact Kept.refl _ | with_reducible assumption | with_reducible refine Kept.setCell ?_ (by first | (simp; done) | (simp; omega) | omega) _ | with_reducible refine Kept.alloc ?_ _ | with_reducible refine Kept.drewN ?_ _ | with_reducible refine Kept.drew ?_ | with_reducible refine Kept.trans ?_ (by with_reducible assumption) | with_reducible refine Kept.dr ?_ (by with_reducible assumption)))⟩
  · have e0 : rdE v b = 2 := by unfold rdE; rw [if_neg]; omega
    have e1 : rdR v b = 0 := by unfold rdR; rw [e0]; rfl
    rw [e0, e1]
    clear e0 e1
    have hm : v < 1 ∨ 1000 < v ∨ b < 1 ∨ 3000 < b := by omega
    clear hr
    go_enter Try.func16, Try.ntmps16
    go_wp2_with fail
    with_reducible refine (moving_bad v b hm _).mono ?_
    rintro e w' ⟨rfl, rfl⟩
    go_wp2_with fail
    all_goals exact bodyPost_ret (v := .tuple #[.int .i64 0, .int .i64 2]) (by first | (simp [results, Try.results16, go_sem]; done) | (simp (maxDischargeDepth := 7) [results, Try.results16, go_sem, *]; done)) rfl ⟨rfl, Kept.refl _⟩
set_option maxHeartbeats 4000000 in
set_option maxRecDepth 100000 in
theorem ref_rate_w (v b : Int) (v_0 : -9223372036854775808 ≤ v) (v_1 : v ≤ 9223372036854775807) (b_0 : -9223372036854775808 ≤ b) (b_1 : b ≤ 9223372036854775807) (w : World) : Calls Try.prog 18 #[.int .i64 v, .int .i64 b] w fun e w' => e = .returned (.tuple #[.int .i64 (rtV v b), .int .i64 (rtE v b)]) ∧ Kept w w' := by
  by_cases hr : 1 ≤ v ∧ v ≤ 1000 ∧ 1 ≤ b ∧ b ≤ 3000
  · obtain ⟨v0, v1, b0, b1⟩ := hr
    have hv : 1 ≤ v ∧ v ≤ 1000 := ⟨v0, v1⟩
    have hb : 1 ≤ b ∧ b ≤ 3000 := ⟨b0, b1⟩
    have sc := bank_sc b hb.1 hb.2
    have vv := mul_sb2 v v 1000 1000 (by omega) (by omega) (by omega) (by omega)
    have vn := sq_nneg v
    have mb := mul_sb2 (87431 * v) (cosV (b * 3600)) 87431000 1073741824 (by omega) (by omega) (by omega) (by omega)
    have MD := fun w => ref_muldiv_w 20626481000000 (sinV (b * 3600)) (87431 * v * cosV (b * 3600)) (by omega) (by omega) (by omega) (by omega) (by omega) (by omega) w
    have ev : rtE v b = mqe 0 20626481000000 (sinV (b * 3600)) (87431 * v * cosV (b * 3600)) := by unfold rtE; rw [if_pos ⟨hv.1, hv.2, hb.1, hb.2⟩]
    have er : rtV v b = mqv 0 20626481000000 (sinV (b * 3600)) (87431 * v * cosV (b * 3600)) := by unfold rtV; rw [if_pos ⟨hv.1, hv.2, hb.1, hb.2⟩]
    rw [ev, er]
    clear ev er
    have wr1 : IntKind.i64.wrap (87431 * v * cosV (b * 3600)) = 87431 * v * cosV (b * 3600) := IntWalk.i64_in _ (by omega)
    have wr2 : IntKind.i64.wrap (87431 * v) = 87431 * v := IntWalk.i64_in _ (by omega)
    generalize mqe 0 20626481000000 (sinV (b * 3600)) (87431 * v * cosV (b * 3600)) = ME at *
    generalize mqv 0 20626481000000 (sinV (b * 3600)) (87431 * v * cosV (b * 3600)) = MV at *
    have SN := fun w => ref_sin_w (b * 3600) (by omega) (by omega) w
    have CS := fun w => ref_cos_w (b * 3600) (by omega) (by omega) w
    generalize sinV (b * 3600) = S at *
    generalize cosV (b * 3600) = C at *
    have HMD := Lib.hid MD
    have HSN := Lib.hid SN
    have HCS := Lib.hid CS
    clear MD SN CS
    go_enter Try.func18, Try.ntmps18
    go_wp2_with fail
    with_reducible refine (moving_ok v b hv.1 hv.2 hb.1 hb.2 _).mono ?_
    rintro e w' ⟨rfl, rfl⟩
    go_wp2_with fail
    with_reducible refine (HSN.out _).mono ?_
    rintro e w' ⟨rfl, rfl⟩
    go_wp2_with fail
    with_reducible refine (HCS.out _).mono ?_
    rintro e w' ⟨rfl, rfl⟩
    go_wp2_with fail
    with_reducible refine (HMD.out _).mono ?_
    rintro e w' ⟨rfl, rfl⟩
    go_wp2_with fail
    all_goals exact bodyPost_ret (v := .tuple #[.int .i64 MV, .int .i64 ME]) (by first | (simp [results, Try.results18, go_sem]; done) | (simp (maxDischargeDepth := 7) [results, Try.results18, go_sem, *]; done)) rfl ⟨rfl, (by repeat (first | with_reducible exact Kept.refl _ | with_reducible assumption | with_reducible refine Kept.setCell ?_ (by first | (simp; done) | (simp; omega) | omega) _ | with_reducible refine Kept.alloc ?_ _ | with_reducible refine Kept.drewN ?_ _ | with_reducible refine Kept.drew ?_ | with_reducible refine Kept.trans ?_ (by with_reducible assumption) | with_reducible refine Kept.dr ?_ (by with_reducible assumption)))⟩
  · have e0 : rtE v b = 2 := by unfold rtE; rw [if_neg]; omega
    have e1 : rtV v b = 0 := by unfold rtV; rw [if_neg]; omega
    rw [e0, e1]
    clear e0 e1
    have hm : v < 1 ∨ 1000 < v ∨ b < 1 ∨ 3000 < b := by omega
    clear hr
    go_enter Try.func18, Try.ntmps18
    go_wp2_with fail
    with_reducible refine (moving_bad v b hm _).mono ?_
    rintro e w' ⟨rfl, rfl⟩
    go_wp2_with fail
    all_goals exact bodyPost_ret (v := .tuple #[.int .i64 0, .int .i64 2]) (by first | (simp [results, Try.results18, go_sem]; done) | (simp (maxDischargeDepth := 7) [results, Try.results18, go_sem, *]; done)) rfl ⟨rfl, Kept.refl _⟩

end Go.Proofs.Ytfnhnlnofglkoaa
