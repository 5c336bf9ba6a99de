/-
  Own contracts: texts of latitudes, longitudes and positions, and read back.
-/
import Derived.Test.YtofeijgcbjhkdaaAngd
import Derived.WalkKit
import Derived.ProofKit
import Derived.OpenShut
import Derived.WalkLawsBesides
import Derived.WalkSpells
import Derived.Lib.Hide
import Derived.Deep.DeepCutAuto
import Derived.Deep.CutBlock
import Derived.Deep.QuietTactic
import Derived.BigQuiet
import Derived.Handy
import Derived.StillTailTactics
import Derived.IntWalk
import Derived.LoopN
import Derived.Deep.RegionHeld3
namespace Go.Proofs.Ytofeijgcbjhkdaa
open Go.ChangeShapes Go.WideShapes Go.ChangeAt Go.RowKit
set_option linter.unusedVariables false
set_option linter.unusedSimpArgs false
theorem rlattext_ok (a : Int) (h0 : -32400000 ≤ a) (h1 : a ≤ 32400000) (w : World) : Calls Try.prog 30 #[.int .i64 a] w fun e w' => e = .returned (.tuple #[.string (latS a), .int .i64 0]) ∧ Kept w w' := by
  have z2 := sx2_size
  have z3 := sx3_size
  by_cases c : a < 0
  · rw [show latS a = _ from if_pos c]
    go_enter Try.func30, Try.ntmps30
    go_wp2_with (first | (go_at_call 47; (first | with_reducible refine (rsex2 _ (by omega) (by omega) _).mono ?_ | with_reducible refine (rsex3 _ (by omega) (by omega) _).mono ?_); rintro e w' ⟨rfl, hk⟩))
    go_ret2
    exact ⟨rfl, (by repeat (first | with_reducible exact Kept.refl _ | with_reducible assumption | with_reducible refine Kept.setCell ?_ (by first | (simp; done) | (simp; omega) | omega) _ | with_reducible refine Kept.alloc ?_ _ | with_reducible refine Kept.drewN ?_ _ | with_reducible refine Kept.drew ?_ | with_reducible refine Kept.trans ?_ (by with_reducible assumption) | with_reducible refine Kept.dr ?_ (by with_reducible assumption)))⟩
  · rw [show latS a = _ from if_neg c]
    go_enter Try.func30, Try.ntmps30
    go_wp2_with (first | (go_at_call 47; (first | with_reducible refine (rsex2 _ (by omega) (by omega) _).mono ?_ | with_reducible refine (rsex3 _ (by omega) (by omega) _).mono ?_); rintro e w' ⟨rfl, hk⟩))
    go_ret2
    exact ⟨rfl, (by repeat (first | with_reducible exact Kept.refl _ | with_reducible assumption | with_reducible refine Kept.setCell ?_ (by first | (simp; done) | (simp; omega) | omega) _ | with_reducible refine Kept.alloc ?_ _ | with_reducible refine Kept.drewN ?_ _ | with_reducible refine Kept.drew ?_ | with_reducible refine Kept.trans ?_ (by with_reducible assumption) | with_reducible refine Kept.dr ?_ (by with_reducible assumption)))⟩
theorem rlattext_bad (a : Int) (h : a < -32400000 ∨ 32400000 < a) (w : World) : Calls Try.prog 30 #[.int .i64 a] w fun e w' => e = .returned (.tuple #[.string ⟨#[]⟩, .int .i64 2]) ∧ Kept w w' := by
  rcases h with h | h
  all_goals
    go_enter Try.func30, Try.ntmps30
    go_wp2_with (first | (go_at_call 47; (first | with_reducible refine (rsex2 _ (by omega) (by omega) _).mono ?_ | with_reducible refine (rsex3 _ (by omega) (by omega) _).mono ?_); rintro e w' ⟨rfl, hk⟩))
    go_ret2
    exact ⟨rfl, (by repeat (first | with_reducible exact Kept.refl _ | with_reducible assumption | with_reducible refine Kept.setCell ?_ (by first | (simp; done) | (simp; omega) | omega) _ | with_reducible refine Kept.alloc ?_ _ | with_reducible refine Kept.drewN ?_ _ | with_reducible refine Kept.drew ?_ | with_reducible refine Kept.trans ?_ (by with_reducible assumption) | with_reducible refine Kept.dr ?_ (by with_reducible assumption)))⟩
theorem rlontext_ok (a : Int) (h0 : -64800000 < a) (h1 : a ≤ 64800000) (w : World) : Calls Try.prog 31 #[.int .i64 a] w fun e w' => e = .returned (.tuple #[.string (lonS a), .int .i64 0]) ∧ Kept w w' := by
  have z2 := sx2_size
  have z3 := sx3_size
  by_cases c : a < 0
  · rw [show lonS a = _ from if_pos c]
    go_enter Try.func31, Try.ntmps31
    go_wp2_with (first | (go_at_call 47; (first | with_reducible refine (rsex2 _ (by omega) (by omega) _).mono ?_ | with_reducible refine (rsex3 _ (by omega) (by omega) _).mono ?_); rintro e w' ⟨rfl, hk⟩))
    go_ret2
    exact ⟨rfl, (by repeat (first | with_reducible exact Kept.refl _ | with_reducible assumption | with_reducible refine Kept.setCell ?_ (by first | (simp; done) | (simp; omega) | omega) _ | with_reducible refine Kept.alloc ?_ _ | with_reducible refine Kept.drewN ?_ _ | with_reducible refine Kept.drew ?_ | with_reducible refine Kept.trans ?_ (by with_reducible assumption) | with_reducible refine Kept.dr ?_ (by with_reducible assumption)))⟩
  · rw [show lonS a = _ from if_neg c]
    go_enter Try.func31, Try.ntmps31
    go_wp2_with (first | (go_at_call 47; (first | with_reducible refine (rsex2 _ (by omega) (by omega) _).mono ?_ | with_reducible refine (rsex3 _ (by omega) (by omega) _).mono ?_); rintro e w' ⟨rfl, hk⟩))
    go_ret2
    exact ⟨rfl, (by repeat (first | with_reducible exact Kept.refl _ | with_reducible assumption | with_reducible refine Kept.setCell ?_ (by first | (simp; done) | (simp; omega) | omega) _ | with_reducible refine Kept.alloc ?_ _ | with_reducible refine Kept.drewN ?_ _ | with_reducible refine Kept.drew ?_ | with_reducible refine Kept.trans ?_ (by with_reducible assumption) | with_reducible refine Kept.dr ?_ (by with_reducible assumption)))⟩
theorem rlontext_bad (a : Int) (h : a ≤ -64800000 ∨ 64800000 < a) (w : World) : Calls Try.prog 31 #[.int .i64 a] w fun e w' => e = .returned (.tuple #[.string ⟨#[]⟩, .int .i64 2]) ∧ Kept w w' := by
  rcases h with h | h
  all_goals
    go_enter Try.func31, Try.ntmps31
    go_wp2_with (first | (go_at_call 47; (first | with_reducible refine (rsex2 _ (by omega) (by omega) _).mono ?_ | with_reducible refine (rsex3 _ (by omega) (by omega) _).mono ?_); rintro e w' ⟨rfl, hk⟩))
    go_ret2
    exact ⟨rfl, (by repeat (first | with_reducible exact Kept.refl _ | with_reducible assumption | with_reducible refine Kept.setCell ?_ (by first | (simp; done) | (simp; omega) | omega) _ | with_reducible refine Kept.alloc ?_ _ | with_reducible refine Kept.drewN ?_ _ | with_reducible refine Kept.drew ?_ | with_reducible refine Kept.trans ?_ (by with_reducible assumption) | with_reducible refine Kept.dr ?_ (by with_reducible assumption)))⟩
theorem latS_size (a : Int) : (latS a).size = 9 := by unfold latS; split <;> rfl
theorem lonS_size (a : Int) : (lonS a).size = 10 := by unfold lonS; split <;> rfl
theorem pos_cut (a b : Int) : (latS a ++ lonS b).extract 0 9 = latS a ∧ (latS a ++ lonS b).extract 9 19 = lonS b ∧ (latS a ++ lonS b).size = 19 := by
  have h1 := latS_size a
  have h2 := lonS_size b
  exact ⟨ByteArray.extract_append_eq_left (by omega), ByteArray.extract_append_eq_right (by omega) (by omega), by rw [ByteArray.size_append]; omega⟩
theorem psig2_pos (s : ByteArray) (P Q a : Int) (hs : s.size = 9) (h0 : ((s[0]'(by omega)).toNat : Int) = P) (hx : ∀ w, Calls Try.prog 53 #[.string (s.extract 1 9), .int .i64 2] w fun e w' => e = .returned (.tuple #[.int .i64 a, .int .i64 0]) ∧ w = w') (w : World) : Calls Try.prog 48 #[.string s, .int .u8 P, .int .u8 Q, .int .i64 2] w fun e w' => e = .returned (.tuple #[.int .i64 a, .int .i64 0]) ∧ w = w' := by
  have HX := Lib.hid hx
  clear hx
  obtain ⟨i1, i2⟩ := nonempty s (by omega)
  have g1 : (P == P) = true := by simp
  have g2 : (P != P) = false := by simp
  go_enter Try.func48, Try.ntmps48
  go_wp2_with (first | (go_at_call 53; refine (HX.out _).mono ?_; rintro e w' ⟨rfl, rfl⟩))
  all_goals go_ret2
  all_goals exact ⟨rfl, rfl⟩
theorem psig3_pos (s : ByteArray) (P Q a : Int) (hs : s.size = 10) (h0 : ((s[0]'(by omega)).toNat : Int) = P) (hx : ∀ w, Calls Try.prog 53 #[.string (s.extract 1 10), .int .i64 3] w fun e w' => e = .returned (.tuple #[.int .i64 a, .int .i64 0]) ∧ w = w') (w : World) : Calls Try.prog 48 #[.string s, .int .u8 P, .int .u8 Q, .int .i64 3] w fun e w' => e = .returned (.tuple #[.int .i64 a, .int .i64 0]) ∧ w = w' := by
  have HX := Lib.hid hx
  clear hx
  obtain ⟨i1, i2⟩ := nonempty s (by omega)
  have g1 : (P == P) = true := by simp
  have g2 : (P != P) = false := by simp
  go_enter Try.func48, Try.ntmps48
  go_wp2_with (first | (go_at_call 53; refine (HX.out _).mono ?_; rintro e w' ⟨rfl, rfl⟩))
  all_goals go_ret2
  all_goals exact ⟨rfl, rfl⟩
set_option maxHeartbeats 1000000 in
theorem parselat_back (a : Int) (h0 : -32400000 ≤ a) (h1 : a ≤ 32400000) (w : World) : Calls Try.prog 32 #[.string (latS a)] w fun e w' => e = .returned (.tuple #[.int .i64 a, .int .i64 0]) ∧ w = w' := by
  by_cases c : a < 0
  · have e : latS a = ⟨#[83]⟩ ++ sx2 (-a) := if_pos c
    have hx : ∀ w, Calls Try.prog 53 #[.string ((latS a).extract 1 9), .int .i64 2] w fun e w' => e = .returned (.tuple #[.int .i64 (-a), .int .i64 0]) ∧ w = w' := by
      intro w
      rw [e, show ((⟨#[83]⟩ : ByteArray) ++ sx2 (-a)).extract 1 9 = sx2 (-a) from rfl]
      exact pback2 (-a) (by omega) (by omega) w
    have hc := psig2_neg (latS a) 78 83 (-a) (latS_size a) (by simp only [e]; rfl) (by decide) (by omega) (by omega) hx
    rw [Int.neg_neg] at hc
    have HC := Lib.hid hc
    clear hc hx e
    go_enter Try.func32, Try.ntmps32
    go_wp2_with (first | (go_at_call 48; refine (HC.out _).mono ?_; rintro e w' ⟨rfl, rfl⟩))
    go_ret2
    exact ⟨rfl, rfl⟩
  · have e : latS a = ⟨#[78]⟩ ++ sx2 a := if_neg c
    have hx : ∀ w, Calls Try.prog 53 #[.string ((latS a).extract 1 9), .int .i64 2] w fun e w' => e = .returned (.tuple #[.int .i64 a, .int .i64 0]) ∧ w = w' := by
      intro w
      rw [e, show ((⟨#[78]⟩ : ByteArray) ++ sx2 a).extract 1 9 = sx2 a from rfl]
      exact pback2 a (by omega) (by omega) w
    have hc := psig2_pos (latS a) 78 83 a (latS_size a) (by simp only [e]; rfl) hx
    have HC := Lib.hid hc
    clear hc hx e
    go_enter Try.func32, Try.ntmps32
    go_wp2_with (first | (go_at_call 48; refine (HC.out _).mono ?_; rintro e w' ⟨rfl, rfl⟩))
    go_ret2
    exact ⟨rfl, rfl⟩
set_option maxHeartbeats 1000000 in
theorem parselon_back (a : Int) (h0 : -64800000 < a) (h1 : a ≤ 64800000) (w : World) : Calls Try.prog 33 #[.string (lonS a)] w fun e w' => e = .returned (.tuple #[.int .i64 a, .int .i64 0]) ∧ w = w' := by
  by_cases c : a < 0
  · have e : lonS a = ⟨#[87]⟩ ++ sx3 (-a) := if_pos c
    have hx : ∀ w, Calls Try.prog 53 #[.string ((lonS a).extract 1 10), .int .i64 3] w fun e w' => e = .returned (.tuple #[.int .i64 (-a), .int .i64 0]) ∧ w = w' := by
      intro w
      rw [e, show ((⟨#[87]⟩ : ByteArray) ++ sx3 (-a)).extract 1 10 = sx3 (-a) from rfl]
      exact pback3 (-a) (by omega) (by omega) w
    have hc := psig3_neg (lonS a) 69 87 (-a) (lonS_size a) (by simp only [e]; rfl) (by decide) (by omega) (by omega) hx
    rw [Int.neg_neg] at hc
    have HC := Lib.hid hc
    clear hc hx e
    go_enter Try.func33, Try.ntmps33
    go_wp2_with (first | (go_at_call 48; refine (HC.out _).mono ?_; rintro e w' ⟨rfl, rfl⟩))
    go_ret2
    exact ⟨rfl, rfl⟩
  · have e : lonS a = ⟨#[69]⟩ ++ sx3 a := if_neg c
    have hx : ∀ w, Calls Try.prog 53 #[.string ((lonS a).extract 1 10), .int .i64 3] w fun e w' => e = .returned (.tuple #[.int .i64 a, .int .i64 0]) ∧ w = w' := by
      intro w
      rw [e, show ((⟨#[69]⟩ : ByteArray) ++ sx3 a).extract 1 10 = sx3 a from rfl]
      exact pback3 a (by omega) (by omega) w
    have hc := psig3_pos (lonS a) 69 87 a (lonS_size a) (by simp only [e]; rfl) hx
    have HC := Lib.hid hc
    clear hc hx e
    go_enter Try.func33, Try.ntmps33
    go_wp2_with (first | (go_at_call 48; refine (HC.out _).mono ?_; rintro e w' ⟨rfl, rfl⟩))
    go_ret2
    exact ⟨rfl, rfl⟩
end Go.Proofs.Ytofeijgcbjhkdaa
