/-
  Own contracts: package angle and the document's answers of layer 4: directions, turns, differences, sectors.
-/
import Derived.Test.YtfpgdicacjkfoaaGreatDoorRows
import Derived.Test.YtfpgdicacjkfoaaGreatDoorBase
import Derived.Test.YtfpgdicacjkfoaaGreatDoorNum
import Derived.WalkKit
import Derived.ProofKit
import Derived.OpenShut
import Derived.WalkLawsBesides
import Derived.WalkSpells
import Derived.Lib.Hide
import Derived.Deep.DeepCutAuto
import Derived.Deep.CutBlock
import Derived.Deep.QuietTactic
import Derived.BigQuiet
import Derived.Handy
import Derived.StillTailTactics
import Derived.IntWalk
import Derived.LoopN
import Derived.Deep.RegionHeld3
namespace Go.Proofs.YtfpgdicacjkfoaaGreatDoor
open Go.ChangeShapes Go.WideShapes Go.ChangeAt Go.RowKit
set_option linter.unusedVariables false
set_option linter.unusedSimpArgs false
theorem withF {p G : Prop} (h : p) (g : p → G) : G := g h
theorem retb {b : Bool} (h : b = true) : Ending.returned (.bool b) = .returned (.bool true) := by rw [h]
theorem kcell {W w1 : World} (h : Kept W w1) (b : Nat) (hb : b < W.heap.size) : (∀ o, w1.cell? ⟨b, o, none⟩ = W.cell? ⟨b, o, none⟩) ∧ (∀ o, w1.frozen? ⟨b, o, none⟩ = W.frozen? ⟨b, o, none⟩) :=
  ⟨fun o => h.cell (p := ⟨b, o, none⟩) hb, fun o => h.frozen (p := ⟨b, o, none⟩) hb⟩
theorem kuse {W w1 : World} {b : Nat} {G : Prop} (h : Kept W w1) (hb : b < W.heap.size) (g : (∀ o, w1.cell? ⟨b, o, none⟩ = W.cell? ⟨b, o, none⟩) → (∀ o, w1.frozen? ⟨b, o, none⟩ = W.frozen? ⟨b, o, none⟩) → G) : G := g (kcell h b hb).1 (kcell h b hb).2
theorem kfacts {W w1 : World} (h : Kept W w1) : (∀ b o, b < W.heap.size → w1.cell? ⟨b, o, none⟩ = W.cell? ⟨b, o, none⟩) ∧ (∀ b o, b < W.heap.size → w1.frozen? ⟨b, o, none⟩ = W.frozen? ⟨b, o, none⟩) ∧ W.heap.size ≤ w1.heap.size :=
  ⟨fun b o hb => h.cell (p := ⟨b, o, none⟩) hb, fun b o hb => h.frozen (p := ⟨b, o, none⟩) hb, h.size⟩

def nrm (a : Int) : Int := a % 129600000
def trn (a b : Int) : Int := nrm (nrm a + nrm b)
def swp (f t : Int) : Int := nrm (nrm t - nrm f)
def dif (f t : Int) : Int := if 64800000 < swp f t then swp f t - 129600000 else swp f t
def mid (f t : Int) : Int := trn f (dif f t / 2)
def swT (f t k : Int) : Int := if k = 2 then swp f t else if k = 1 then swp t f else 0
def wiB (a f s : Int) : Bool := if 0 ≤ s then decide (swp f a ≤ s) else decide (s ≤ -swp a f)
theorem nrm_bd (a : Int) : 0 ≤ nrm a ∧ nrm a < 129600000 := by unfold nrm; omega
theorem swp_bd (a b : Int) : 0 ≤ swp a b ∧ swp a b < 129600000 := nrm_bd _
theorem trn_bd (a b : Int) : 0 ≤ trn a b ∧ trn a b < 129600000 := nrm_bd _
theorem dif_bd (a b : Int) : -64800000 < dif a b ∧ dif a b ≤ 64800000 := by have := swp_bd a b; unfold dif; split <;> omega
theorem trn_dif (f t : Int) : trn f (dif f t) = nrm t := by unfold dif trn swp nrm; split <;> omega
theorem reti {k : IntKind} {a b : Int} (h : a = b) : Ending.returned (.int k a) = .returned (.int k b) := by rw [h]
theorem retbb {a b : Bool} (h : a = b) : Ending.returned (.bool a) = .returned (.bool b) := by rw [h]
theorem norm_w (a : Int) (a_0 : -9223372036854775808 ≤ a) (a_1 : a ≤ 9223372036854775807) (w : World) : Calls Tryz.prog 52 #[.int .i64 a] w fun e w' => e = .returned (.int .i64 (nrm a)) ∧ w = w' := by
  show Calls _ _ _ _ fun e w' => e = .returned (.int .i64 (a % 129600000)) ∧ w = w'
  by_cases c2 : a.tmod 129600000 < 0
  · have ⟨e, h1⟩ := tmod_neg a 129600000 (by omega) c2
    have E := Lib.hid e
    clear e
    go_enter Tryz.func52, Tryz.ntmps52
    go_wp2
    go_ret
    refine ⟨?_, rfl⟩
    rw [← E.out]; rfl
  · have e := tmod_pos a 129600000 (by omega) (by omega)
    have h1 := Int.emod_nonneg a (show (129600000 : Int) ≠ 0 by omega)
    have h2 := Int.emod_lt_of_pos a (show (0 : Int) < 129600000 by omega)
    clear c2
    go_enter Tryz.func52, Tryz.ntmps52
    go_wp2
    go_ret
    exact ⟨rfl, rfl⟩
theorem turn_w (a b : Int) (a_0 : -9223372036854775808 ≤ a) (a_1 : a ≤ 9223372036854775807) (b_0 : -9223372036854775808 ≤ b) (b_1 : b ≤ 9223372036854775807) (w : World) : Calls Tryz.prog 54 #[.int .i64 a, .int .i64 b] w fun e w' => e = .returned (.int .i64 (trn a b)) ∧ w = w' := by
  obtain ⟨b0_0, b0_1⟩ := nrm_bd a
  obtain ⟨b1_0, b1_1⟩ := nrm_bd b
  go_enter Tryz.func54, Tryz.ntmps54
  go_wp2_with (first | (go_at_call 52; (first | refine (norm_w _ (by omega) (by omega) _).mono ?_); rintro e w' ⟨rfl, rfl⟩))
  all_goals go_ret
  all_goals exact ⟨rfl, rfl⟩
theorem sweep_w (f t k : Int) (f_0 : -9223372036854775808 ≤ f) (f_1 : f ≤ 9223372036854775807) (t_0 : -9223372036854775808 ≤ t) (t_1 : t ≤ 9223372036854775807) (k_0 : 0 ≤ k) (k_1 : k ≤ 255) (w : World) : Calls Tryz.prog 63 #[.int .i64 f, .int .i64 t, .int .u8 k] w fun e w' => e = .returned (.int .i64 (swT f t k)) ∧ w = w' := by
  obtain ⟨b0_0, b0_1⟩ := nrm_bd f
  obtain ⟨b1_0, b1_1⟩ := nrm_bd t
  by_cases h2 : k = 2
  · subst h2
    go_enter Tryz.func63, Tryz.ntmps63
    go_wp2_with (first | (go_at_call 52; (first | refine (norm_w _ (by omega) (by omega) _).mono ?_); rintro e w' ⟨rfl, rfl⟩))
    go_ret
    exact ⟨rfl, rfl⟩
  · by_cases h1 : k = 1
    · subst h1
      go_enter Tryz.func63, Tryz.ntmps63
      go_wp2_with (first | (go_at_call 52; (first | refine (norm_w _ (by omega) (by omega) _).mono ?_); rintro e w' ⟨rfl, rfl⟩))
      go_ret
      exact ⟨rfl, rfl⟩
    · have E : Hid (swT f t k = 0) := Lib.hid (by unfold swT; rw [if_neg h2, if_neg h1])
      have g2 : (k == 2) = false := by simpa using h2
      have g1 : (k == 1) = false := by simpa using h1
      clear h1 h2
      rw [E.out]
      go_enter Tryz.func63, Tryz.ntmps63
      go_wp2_with (first | (go_at_call 52; (first | refine (norm_w _ (by omega) (by omega) _).mono ?_); rintro e w' ⟨rfl, rfl⟩))
      go_ret
      exact ⟨rfl, rfl⟩
theorem diff_w (f t : Int) (f_0 : -9223372036854775808 ≤ f) (f_1 : f ≤ 9223372036854775807) (t_0 : -9223372036854775808 ≤ t) (t_1 : t ≤ 9223372036854775807) (w : World) : Calls Tryz.prog 42 #[.int .i64 f, .int .i64 t] w fun e w' => e = .returned (.int .i64 (dif f t)) ∧ w = w' := by
  obtain ⟨b0_0, b0_1⟩ := nrm_bd f
  obtain ⟨b1_0, b1_1⟩ := nrm_bd t
  obtain ⟨s0, s1⟩ := swp_bd f t
  have E2 : Hid (swT f t 2 = swp f t) := Lib.hid rfl
  by_cases h : 64800000 < swp f t
  · have E : Hid (dif f t = swp f t - 129600000) := Lib.hid (by unfold dif; rw [if_pos h])
    rw [E.out]
    go_enter Tryz.func42, Tryz.ntmps42
    go_wp2_with (first | (go_at_call 63; refine (sweep_w _ _ _ (by omega) (by omega) (by omega) (by omega) (by omega) (by omega) _).mono ?_; rw [E2.out]; rintro e w' ⟨rfl, rfl⟩))
    go_ret
    exact ⟨rfl, rfl⟩
  · have E : Hid (dif f t = swp f t) := Lib.hid (by unfold dif; rw [if_neg h])
    rw [E.out]
    go_enter Tryz.func42, Tryz.ntmps42
    go_wp2_with (first | (go_at_call 63; refine (sweep_w _ _ _ (by omega) (by omega) (by omega) (by omega) (by omega) (by omega) _).mono ?_; rw [E2.out]; rintro e w' ⟨rfl, rfl⟩))
    go_ret
    exact ⟨rfl, rfl⟩
theorem ref_norm_w (a : Int) (a_0 : -9223372036854775808 ≤ a) (a_1 : a ≤ 9223372036854775807) (w : World) : Calls Tryz.prog 56 #[.int .i64 a] w fun e w' => e = .returned (.int .i64 (nrm a)) ∧ w = w' := by
  show Calls _ _ _ _ fun e w' => e = .returned (.int .i64 (a % 129600000)) ∧ w = w'
  by_cases c2 : a.tmod 129600000 < 0
  · have ⟨e, h1⟩ := tmod_neg a 129600000 (by omega) c2
    have E := Lib.hid e
    clear e
    go_enter Tryz.func56, Tryz.ntmps56
    go_wp2
    go_ret
    refine ⟨?_, rfl⟩
    rw [← E.out]; rfl
  · have e := tmod_pos a 129600000 (by omega) (by omega)
    have h1 := Int.emod_nonneg a (show (129600000 : Int) ≠ 0 by omega)
    have h2 := Int.emod_lt_of_pos a (show (0 : Int) < 129600000 by omega)
    clear c2
    go_enter Tryz.func56, Tryz.ntmps56
    go_wp2
    go_ret
    exact ⟨rfl, rfl⟩
theorem ref_turn_w (a b : Int) (a_0 : -9223372036854775808 ≤ a) (a_1 : a ≤ 9223372036854775807) (b_0 : -9223372036854775808 ≤ b) (b_1 : b ≤ 9223372036854775807) (w : World) : Calls Tryz.prog 58 #[.int .i64 a, .int .i64 b] w fun e w' => e = .returned (.int .i64 (trn a b)) ∧ w = w' := by
  obtain ⟨b0_0, b0_1⟩ := nrm_bd a
  obtain ⟨b1_0, b1_1⟩ := nrm_bd b
  go_enter Tryz.func58, Tryz.ntmps58
  go_wp2_with (first | (go_at_call 56; (first | refine (ref_norm_w _ (by omega) (by omega) _).mono ?_); rintro e w' ⟨rfl, rfl⟩))
  all_goals go_ret
  all_goals exact ⟨rfl, rfl⟩
theorem ref_diff_w (f t : Int) (f_0 : -9223372036854775808 ≤ f) (f_1 : f ≤ 9223372036854775807) (t_0 : -9223372036854775808 ≤ t) (t_1 : t ≤ 9223372036854775807) (w : World) : Calls Tryz.prog 45 #[.int .i64 f, .int .i64 t] w fun e w' => e = .returned (.int .i64 (dif f t)) ∧ w = w' := by
  obtain ⟨b0_0, b0_1⟩ := nrm_bd f
  obtain ⟨b1_0, b1_1⟩ := nrm_bd t
  obtain ⟨s0, s1⟩ := nrm_bd (nrm t - nrm f)
  have E2 : Hid (swT f t 2 = swp f t) := Lib.hid rfl
  by_cases h : 64800000 < nrm (nrm t - nrm f)
  · have E : Hid (dif f t = nrm (nrm t - nrm f) - 129600000) := Lib.hid (by unfold dif swp; rw [if_pos h])
    rw [E.out]
    go_enter Tryz.func45, Tryz.ntmps45
    go_wp2_with (first | (go_at_call 56; (first | refine (ref_norm_w _ (by omega) (by omega) _).mono ?_); rintro e w' ⟨rfl, rfl⟩))
    go_ret
    exact ⟨rfl, rfl⟩
  · have E : Hid (dif f t = nrm (nrm t - nrm f)) := Lib.hid (by unfold dif swp; rw [if_neg h])
    rw [E.out]
    go_enter Tryz.func45, Tryz.ntmps45
    go_wp2_with (first | (go_at_call 56; (first | refine (ref_norm_w _ (by omega) (by omega) _).mono ?_); rintro e w' ⟨rfl, rfl⟩))
    go_ret
    exact ⟨rfl, rfl⟩
end Go.Proofs.YtfpgdicacjkfoaaGreatDoor
