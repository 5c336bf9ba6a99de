/-
  Own contracts: package line and the document's answers of layer 11: bank angles for radii.
-/
import Derived.Test.YtfnhnlnofglkoaaTurc
import Derived.WalkKit
import Derived.ProofKit
import Derived.OpenShut
import Derived.WalkLawsBesides
import Derived.WalkSpells
import Derived.Lib.Hide
import Derived.Deep.DeepCutAuto
import Derived.Deep.CutBlock
import Derived.Deep.QuietTactic
import Derived.BigQuiet
import Derived.Handy
import Derived.StillTailTactics
import Derived.IntWalk
import Derived.LoopN
import Derived.Deep.RegionHeld3
namespace Go.Proofs.Ytfnhnlnofglkoaa
open Go.ChangeShapes Go.WideShapes Go.ChangeAt Go.RowKit
set_option linter.unusedVariables false
set_option linter.unusedSimpArgs false
set_option maxHeartbeats 2000000 in
set_option maxRecDepth 100000 in
theorem bank_bad (v r : Int) (h : v < 1 ∨ 1000 < v ∨ r < 1 ∨ 8000000 < r) (w : World) : Calls Try.prog 19 #[.int .i64 v, .int .i64 r] w fun e w' => e = .returned (.tuple #[.int .i64 0, .int .i64 2]) ∧ Kept w w' := by
  by_cases g : 1 ≤ v ∧ v ≤ 1000
  · go_enter Try.func19, Try.ntmps19
    go_wp2_with fail
    with_reducible refine (vsp_ok v g.1 g.2 _).mono ?_
    rintro e w' ⟨rfl, rfl⟩
    go_wp2_with fail
    with_reducible refine (vr_bad r (by omega) _).mono ?_
    rintro e w' ⟨rfl, rfl⟩
    go_wp2_with fail
    all_goals first | (go_ret2; exact ⟨rfl, (by repeat (first | with_reducible exact Kept.refl _ | with_reducible assumption | with_reducible refine Kept.setCell ?_ (by first | (simp; done) | (simp; omega) | omega) _ | with_reducible refine Kept.alloc ?_ _ | with_reducible refine Kept.drewN ?_ _ | with_reducible refine Kept.drew ?_ | with_reducible refine Kept.trans ?_ (by with_reducible assumption) | with_reducible refine Kept.dr ?_ (by with_reducible assumption)))⟩) | (exfalso; omega)
  · replace h : v < 1 ∨ 1000 < v := by omega
    go_enter Try.func19, Try.ntmps19
    go_wp2_with fail
    with_reducible refine (vsp_bad v h _).mono ?_
    rintro e w' ⟨rfl, rfl⟩
    go_wp2_with fail
    all_goals first | (go_ret2; exact ⟨rfl, (by repeat (first | with_reducible exact Kept.refl _ | with_reducible assumption | with_reducible refine Kept.setCell ?_ (by first | (simp; done) | (simp; omega) | omega) _ | with_reducible refine Kept.alloc ?_ _ | with_reducible refine Kept.drewN ?_ _ | with_reducible refine Kept.drew ?_ | with_reducible refine Kept.trans ?_ (by with_reducible assumption) | with_reducible refine Kept.dr ?_ (by with_reducible assumption)))⟩) | (exfalso; omega)
set_option maxHeartbeats 2000000 in
set_option maxRecDepth 100000 in
theorem bank_none (v r : Int) (v0 : 1 ≤ v) (v1 : v ≤ 1000) (r0 : 1 ≤ r) (r1 : r ≤ 8000000) (h3 : ftB v 3000 r = false) (w : World) : Calls Try.prog 19 #[.int .i64 v, .int .i64 r] w fun e w' => e = .returned (.tuple #[.int .i64 0, .int .i64 10]) ∧ Kept w w' := by
  have F0 := fun w => fits_w v 3000 r (by omega) (by omega) (by omega) (by omega) w
  rw [h3] at F0
  have HF0 := Lib.hid F0
  clear F0
  go_enter Try.func19, Try.ntmps19
  go_wp2_with fail
  with_reducible refine (vsp_ok v v0 v1 _).mono ?_
  rintro e w' ⟨rfl, rfl⟩
  go_wp2_with fail
  with_reducible refine (vr_ok r r0 r1 _).mono ?_
  rintro e w' ⟨rfl, rfl⟩
  go_wp2_with fail
  with_reducible refine (HF0.out _).mono ?_
  rintro e w3 ⟨rfl, hk3⟩
  go_wp2_with fail
  all_goals (go_ret2; exact ⟨rfl, (by repeat (first | with_reducible exact Kept.refl _ | with_reducible assumption | with_reducible refine Kept.setCell ?_ (by first | (simp; done) | (simp; omega) | omega) _ | with_reducible refine Kept.alloc ?_ _ | with_reducible refine Kept.drewN ?_ _ | with_reducible refine Kept.drew ?_ | with_reducible refine Kept.trans ?_ (by with_reducible assumption) | with_reducible refine Kept.dr ?_ (by with_reducible assumption)))⟩)
def BkIs (v r : Int) (w : World) (e : Ending) (w' : World) : Prop := ∃ b, (1 ≤ b ∧ b ≤ 3000 ∧ ftB v b r = true ∧ (b = 1 ∨ ftB v (b - 1) r = false)) ∧ e = .returned (.tuple #[.int .i64 b, .int .i64 0]) ∧ Kept w w'
set_option maxHeartbeats 2000000 in
set_option maxRecDepth 100000 in
theorem bank_ok (v r : Int) (v0 : 1 ≤ v) (v1 : v ≤ 1000) (r0 : 1 ≤ r) (r1 : r ≤ 8000000) (h3 : ftB v 3000 r = true) (w : World) : Calls Try.prog 19 #[.int .i64 v, .int .i64 r] w (BkIs v r w) := by
  have F0 := fun w => fits_w v 3000 r (by omega) (by omega) (by omega) (by omega) w
  rw [h3] at F0
  have HF0 := Lib.hid F0
  clear F0
  go_enter Try.func19, Try.ntmps19
  go_wp2_with fail
  with_reducible refine (vsp_ok v v0 v1 _).mono ?_
  rintro e w' ⟨rfl, rfl⟩
  go_wp2_with fail
  with_reducible refine (vr_ok r r0 r1 _).mono ?_
  rintro e w' ⟨rfl, rfl⟩
  go_wp2_with fail
  with_reducible refine (HF0.out _).mono ?_
  rintro e w3 ⟨rfl, hk3⟩
  go_wp2_with fail
  go_loopw [6, 7, 8] (fun lo hi _ wr => ∃ l k : Int, lo = .int .i64 l ∧ hi = .int .i64 k ∧ 1 ≤ l ∧ l ≤ k ∧ k ≤ 3000 ∧ Hid (ftB v k r = true ∧ (l = 1 ∨ ftB v (l - 1) r = false) ∧ Kept w wr)) (fun lo hi _ _ => (intOf hi - intOf lo).toNat)
  case atStart => exact ⟨1, 3000, rfl, rfl, by omega, by omega, by omega, Lib.hid ⟨h3, Or.inl rfl, hk3⟩⟩
  case round =>
    obtain ⟨l, k, rfl, rfl, b0, b1, b2, H⟩ := hrel
    by_cases hlt : l < k
    · have m0 : l ≤ (l + k) / 2 := by omega
      have m1 : (l + k) / 2 < k := by omega
      have cp := fits_w v ((l + k) / 2) r (by omega) (by omega) (by omega) (by omega) wr
      by_cases hc : ftB v ((l + k) / 2) r = true
      · rw [hc] at cp
        have HC := Lib.hid hc
        clear hc
        go_wp2_with fail
        refine cp.mono ?_
        rintro e w2 ⟨rfl, hk⟩
        go_wp2_with fail
        go_roundw
        case rel => exact ⟨l, (l + k) / 2, rfl, rfl, b0, m0, by omega, Lib.hid ⟨HC.out, H.out.2.1, H.out.2.2.trans hk⟩⟩
        case measure => simp [intOf]; omega
      · rw [Bool.not_eq_true] at hc
        rw [hc] at cp
        have HC : Hid (ftB v ((l + k) / 2 + 1 - 1) r = false) := Lib.hid (by rw [show (l + k) / 2 + 1 - 1 = (l + k) / 2 by omega]; exact hc)
        clear hc
        go_wp2_with fail
        refine cp.mono ?_
        rintro e w2 ⟨rfl, hk⟩
        go_wp2_with fail
        go_roundw
        case rel => exact ⟨(l + k) / 2 + 1, k, rfl, rfl, by omega, by omega, b2, Lib.hid ⟨H.out.1, Or.inr HC.out, H.out.2.2.trans hk⟩⟩
        case measure => simp [intOf]; omega
    · obtain rfl : l = k := by omega
      go_wp2_with fail
      go_ret2
      exact ⟨l, ⟨b0, b2, H.out.1, H.out.2.1⟩, rfl, H.out.2.2⟩

theorem ft_no {v b r : Int} (h : ftB v b r = false) : (rdE v b = 2 ∧ rdR v b = 0) ∨ (rdE v b = 0 ∧ r < rdR v b) := by
  have g := of_decide_eq_false h
  rcases rdE_cases v b with e | e
  · exact Or.inr ⟨e, by omega⟩
  · exact Or.inl e
theorem ft_yes {v b r : Int} (h : ftB v b r = true) : rdE v b = 0 ∧ rdR v b ≤ r := of_decide_eq_true h
theorem rd_zero (v : Int) : rdE v 0 = 2 ∧ rdR v 0 = 0 := by
  have e : rdE v 0 = 2 := by unfold rdE; rw [if_neg (by omega)]
  exact ⟨e, by unfold rdR; rw [e, if_neg (by decide)]⟩

end Go.Proofs.Ytfnhnlnofglkoaa
