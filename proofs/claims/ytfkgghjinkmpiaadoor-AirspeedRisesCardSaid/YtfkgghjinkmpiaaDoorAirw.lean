/-
  Own contracts: layer 30: the chapter's examples.
-/
import Derived.Test.YtfkgghjinkmpiaaDoorAirc
import Derived.Test.YtfkgghjinkmpiaaDoorFmti
import Derived.OwnWalk
import Derived.WalkKit
import Derived.ProofKit
import Derived.OpenShut
import Derived.WalkLawsBesides
import Derived.WalkSpells
import Derived.Lib.Hide
import Derived.Deep.DeepCutAuto
import Derived.Deep.CutBlock
import Derived.Deep.QuietTactic
import Derived.BigQuiet
import Derived.Handy
import Derived.StillTailTactics
import Derived.IntWalk
import Derived.LoopN
import Derived.Deep.RegionHeld3
namespace Go.Proofs.YtfkgghjinkmpiaaDoor
open Go.ChangeShapes Go.WideShapes Go.ChangeAt Go.RowKit
set_option linter.unusedVariables false
set_option linter.unusedSimpArgs false
def T3 (w : World) : Prop := Tab w ∧ P10 w
theorem t3_kept {w w' : World} (h : T3 w) (hk : Kept w w') : T3 w' := ⟨tab_kept h.1 hk, tabis_kept h.2 hk⟩
theorem ret_sb {s t : ByteArray} {x y : Bool} (h : s = t) (k : x = y) : Ending.returned (.tuple #[.string s, .bool x]) = .returned (.tuple #[.string t, .bool y]) := by rw [h, k]
theorem l_cs1 (w : World) : Calls Tryd.prog 44 #[.string ⟨#[77, 48, 46, 55, 56, 48]⟩, .string ⟨#[75, 84]⟩] w fun e w' => e = .returned (.tuple #[.string ⟨#[77, 48, 46, 55, 56, 48]⟩, .bool false]) ∧ w = w' := by
  have h := Tryd.strings_CutSuffix (⟨#[77, 48, 46, 55, 56, 48]⟩ : ByteArray) (⟨#[75, 84]⟩ : ByteArray) w (by decide)
  refine h.mono fun e w' ⟨a, b⟩ => ⟨?_, b.symm⟩
  rw [a]
  exact ret_sb (by decide +kernel) (by decide +kernel)
theorem l_cs2 (w : World) : Calls Tryd.prog 44 #[.string ⟨#[50, 53, 48, 75, 84]⟩, .string ⟨#[75, 84]⟩] w fun e w' => e = .returned (.tuple #[.string ⟨#[50, 53, 48]⟩, .bool true]) ∧ w = w' := by
  have h := Tryd.strings_CutSuffix (⟨#[50, 53, 48, 75, 84]⟩ : ByteArray) (⟨#[75, 84]⟩ : ByteArray) w (by decide)
  refine h.mono fun e w' ⟨a, b⟩ => ⟨?_, b.symm⟩
  rw [a]
  exact ret_sb (by decide +kernel) (by decide +kernel)
theorem l_cp1 (w : World) : Calls Tryd.prog 46 #[.string ⟨#[77, 48, 46, 55, 56, 48]⟩, .string ⟨#[77]⟩] w fun e w' => e = .returned (.tuple #[.string ⟨#[48, 46, 55, 56, 48]⟩, .bool true]) ∧ w = w' := by
  have h := Tryd.strings_CutPrefix (⟨#[77, 48, 46, 55, 56, 48]⟩ : ByteArray) (⟨#[77]⟩ : ByteArray) w
  refine h.mono fun e w' ⟨a, b⟩ => ⟨?_, b.symm⟩
  rw [a]
  exact ret_sb (by decide +kernel) (by decide +kernel)
theorem l_hp (w : World) : Calls Tryd.prog 48 #[.string ⟨#[48]⟩, .string ⟨#[48]⟩] w fun e w' => e = .returned (.bool true) ∧ w = w' := by
  have h := Tryd.strings_HasPrefix (⟨#[48]⟩ : ByteArray) (⟨#[48]⟩ : ByteArray) w
  refine h.mono fun e w' ⟨a, b⟩ => ⟨?_, b.symm⟩
  rw [a, show Lib.hasPrefix (⟨#[48]⟩ : ByteArray).data.toList (⟨#[48]⟩ : ByteArray).data.toList = true by decide +kernel]
theorem l_ix (w : World) : Calls Tryd.prog 73 #[.string ⟨#[48, 46, 55, 56, 48]⟩, .string ⟨#[46]⟩] w fun e w' => e = .returned (.int .i64 1) ∧ w = w' := by
  have h := Tryd.stringslite_Index_one (⟨#[48, 46, 55, 56, 48]⟩ : ByteArray) 46 w
  refine h.mono fun e w' ⟨a, b⟩ => ⟨?_, b.symm⟩
  rw [a, show Lib.indexByte (⟨#[48, 46, 55, 56, 48]⟩ : ByteArray).data.toList 46 = 1 by decide +kernel]
set_option maxHeartbeats 1000000 in
set_option maxRecDepth 100000 in
theorem l_cut1  (w : World) : Calls Tryd.prog 62 #[.string ⟨#[48, 46, 55, 56, 48]⟩, .string ⟨#[46]⟩] w fun e w' => e = .returned (.tuple #[.string ⟨#[48]⟩, .string ⟨#[55, 56, 48]⟩, .bool true]) ∧ Dr w w' := by
  have z0 : (⟨#[48, 46, 55, 56, 48]⟩ : ByteArray).size = 5 := rfl
  have z1 : (⟨#[46]⟩ : ByteArray).size = 1 := rfl
  have x1 : (⟨#[48, 46, 55, 56, 48]⟩ : ByteArray).extract 0 1 = ⟨#[48]⟩ := by decide +kernel
  have x2 : (⟨#[48, 46, 55, 56, 48]⟩ : ByteArray).extract 2 5 = ⟨#[55, 56, 48]⟩ := by decide +kernel
  go_enter Tryd.func62, Tryd.ntmps62
  go_wp2_with (go_at_call 73; with_reducible refine (l_ix _).mono ?_; rintro e w' ⟨rfl, rfl⟩)
  all_goals (try (go_quiet (fail); go_wp2))
  all_goals go_ret3
  all_goals exact ⟨by first | rfl | simp [*], (by repeat (first | exact Dr.refl _ | refine Dr.drewN ?_ _ | refine Dr.drew ?_))⟩
set_option maxHeartbeats 1000000 in
set_option maxRecDepth 100000 in
theorem l_cut  (w : World) : Calls Tryd.prog 47 #[.string ⟨#[48, 46, 55, 56, 48]⟩, .string ⟨#[46]⟩] w fun e w' => e = .returned (.tuple #[.string ⟨#[48]⟩, .string ⟨#[55, 56, 48]⟩, .bool true]) ∧ Kept w w' := by
  go_enter Tryd.func47, Tryd.ntmps47
  go_wp2_with (go_at_call 62; with_reducible refine (l_cut1 _).mono ?_; rintro e w' ⟨rfl, hd⟩)
  all_goals go_ret3
  all_goals exact ⟨rfl, (by repeat (first | with_reducible exact Kept.refl _ | with_reducible refine Kept.dr ?_ (by with_reducible assumption)))⟩
set_option maxHeartbeats 1000000 in
set_option maxRecDepth 100000 in
theorem l_dig0  (w : World) : Calls Tryd.prog 45 #[.string ⟨#[48]⟩] w fun e w' => e = .returned (.tuple #[.int .i64 0, .bool true]) ∧ w = w' := by
  have z0 : (⟨#[48]⟩ : ByteArray).size = 1 := rfl
  have i0 : ((⟨#[48]⟩ : ByteArray)[0]'(by decide)).toNat = 48 := rfl
  go_enter Tryd.func45, Tryd.ntmps45
  go_wp2_with fail
  refine wp_loop_rounds 2 ?_
  repeat (rw [rounds_succ]; go_wp2)
  all_goals go_ret2
  all_goals exact ⟨rfl, rfl⟩
set_option maxHeartbeats 1000000 in
set_option maxRecDepth 100000 in
theorem l_dig780  (w : World) : Calls Tryd.prog 45 #[.string ⟨#[55, 56, 48]⟩] w fun e w' => e = .returned (.tuple #[.int .i64 780, .bool true]) ∧ w = w' := by
  have z0 : (⟨#[55, 56, 48]⟩ : ByteArray).size = 3 := rfl
  have i0 : ((⟨#[55, 56, 48]⟩ : ByteArray)[0]'(by decide)).toNat = 55 := rfl
  have i1 : ((⟨#[55, 56, 48]⟩ : ByteArray)[1]'(by decide)).toNat = 56 := rfl
  have i2 : ((⟨#[55, 56, 48]⟩ : ByteArray)[2]'(by decide)).toNat = 48 := rfl
  go_enter Tryd.func45, Tryd.ntmps45
  go_wp2_with fail
  refine wp_loop_rounds 4 ?_
  repeat (rw [rounds_succ]; go_wp2)
  all_goals go_ret2
  all_goals exact ⟨rfl, rfl⟩
set_option maxHeartbeats 1000000 in
set_option maxRecDepth 100000 in
theorem l_dig250  (w : World) : Calls Tryd.prog 45 #[.string ⟨#[50, 53, 48]⟩] w fun e w' => e = .returned (.tuple #[.int .i64 250, .bool true]) ∧ w = w' := by
  have z0 : (⟨#[50, 53, 48]⟩ : ByteArray).size = 3 := rfl
  have i0 : ((⟨#[50, 53, 48]⟩ : ByteArray)[0]'(by decide)).toNat = 50 := rfl
  have i1 : ((⟨#[50, 53, 48]⟩ : ByteArray)[1]'(by decide)).toNat = 53 := rfl
  have i2 : ((⟨#[50, 53, 48]⟩ : ByteArray)[2]'(by decide)).toNat = 48 := rfl
  go_enter Tryd.func45, Tryd.ntmps45
  go_wp2_with fail
  refine wp_loop_rounds 4 ?_
  repeat (rw [rounds_succ]; go_wp2)
  all_goals go_ret2
  all_goals exact ⟨rfl, rfl⟩
set_option maxHeartbeats 1000000 in
set_option maxRecDepth 100000 in
theorem l_parse1  (w : World) : Calls Tryd.prog 25 #[.string ⟨#[77, 48, 46, 55, 56, 48]⟩] w fun e w' => e = .returned (.tuple #[.int .i64 0, .bool false, .int .i64 4]) ∧ Kept w w' := by
  have z0 : (⟨#[55, 56, 48]⟩ : ByteArray).size = 3 := rfl
  have z1 : (⟨#[48]⟩ : ByteArray).size = 1 := rfl
  have z2 : (⟨#[77, 48, 46, 55, 56, 48]⟩ : ByteArray).size = 6 := rfl
  go_enter Tryd.func25, Tryd.ntmps25
  go_wp2_with (first | (go_at_call 44; with_reducible refine (l_cs1 _).mono ?_; rintro e w' ⟨rfl, rfl⟩) | (go_at_call 46; with_reducible refine (l_cp1 _).mono ?_; rintro e w' ⟨rfl, rfl⟩) | (go_at_call 47; with_reducible refine (l_cut _).mono ?_; rintro e w' ⟨rfl, hk⟩) | (go_at_call 45; (first | with_reducible refine (l_dig0 _).mono ?_ | with_reducible refine (l_dig780 _).mono ?_); rintro e w' ⟨rfl, rfl⟩) | (go_at_call 48; with_reducible refine (l_hp _).mono ?_; rintro e w' ⟨rfl, rfl⟩))
  all_goals go_ret3
  all_goals exact ⟨rfl, (by repeat (first | with_reducible exact Kept.refl _ | with_reducible assumption | with_reducible refine Kept.setCell ?_ (by first | (simp; done) | (simp; omega) | omega) _ | with_reducible refine Kept.alloc ?_ _ | with_reducible refine Kept.drewN ?_ _ | with_reducible refine Kept.drew ?_ | with_reducible refine Kept.trans ?_ (by with_reducible assumption) | with_reducible refine Kept.dr ?_ (by with_reducible assumption)))⟩
set_option maxHeartbeats 1000000 in
set_option maxRecDepth 100000 in
theorem l_parse2  (w : World) : Calls Tryd.prog 25 #[.string ⟨#[50, 53, 48, 75, 84]⟩] w fun e w' => e = .returned (.tuple #[.int .i64 250, .bool false, .int .i64 0]) ∧ Kept w w' := by
  have z0 : (⟨#[50, 53, 48]⟩ : ByteArray).size = 3 := rfl
  have z1 : (⟨#[50, 53, 48, 75, 84]⟩ : ByteArray).size = 5 := rfl
  have j : ((⟨#[50, 53, 48]⟩ : ByteArray)[0]'(by decide)).toNat = 50 := rfl
  have e0 : ((⟨#[50, 53, 48]⟩ : ByteArray) == ByteArray.empty) = false := by decide +kernel
  go_enter Tryd.func25, Tryd.ntmps25
  go_wp2_with (first | (go_at_call 44; with_reducible refine (l_cs2 _).mono ?_; rintro e w' ⟨rfl, rfl⟩) | (go_at_call 45; with_reducible refine (l_dig250 _).mono ?_; rintro e w' ⟨rfl, rfl⟩) | (go_at_call 29; with_reducible refine (vcas_yes 250 (by omega) (by omega) _).mono ?_; rintro e w' ⟨rfl, rfl⟩))
  all_goals go_ret3
  all_goals exact ⟨rfl, (by repeat (first | with_reducible exact Kept.refl _ | with_reducible assumption | with_reducible refine Kept.setCell ?_ (by first | (simp; done) | (simp; omega) | omega) _ | with_reducible refine Kept.alloc ?_ _ | with_reducible refine Kept.drewN ?_ _ | with_reducible refine Kept.drew ?_ | with_reducible refine Kept.trans ?_ (by with_reducible assumption) | with_reducible refine Kept.dr ?_ (by with_reducible assumption)))⟩
set_option maxHeartbeats 1000000 in
set_option maxRecDepth 100000 in
theorem l_mtext (w : World) (hP : Hid (P10 w)) : Calls Tryd.prog 26 #[.int .i64 1250] w fun e w' => e = .returned (.tuple #[.string ⟨#[77, 49, 46, 50, 53, 48]⟩, .int .i64 0]) ∧ Kept w w' := by
  have hp := hP.out
  have ww : IntKind.i64.wrap 1250 = 1250 := by decide
  have F1 : Hid (∀ W, P10 W → Calls Tryd.prog 42 #[.int .i64 (IntKind.i64.wrap 1250), .int .i64 10] W fun e w' => e = .returned (.string ⟨#[49, 50, 53, 48]⟩) ∧ Kept W w') := Lib.hid (by
    rw [ww]; exact fun W (h : P10 W) => fmt_any 1250 (by omega) (by omega) (⟨#[49, 50, 53, 48]⟩ : ByteArray) (by decide +kernel) W (Lib.hid h))
  clear ww
  have F2 := Lib.hid (fmt_small 1 (by omega) (by omega) (⟨#[49]⟩ : ByteArray) (by decide +kernel))
  have HV := Lib.hid (vmach_yes 1250 (by omega) (by omega))
  have x1 : (⟨#[49, 50, 53, 48]⟩ : ByteArray).extract 1 4 = ⟨#[50, 53, 48]⟩ := by decide +kernel
  have z0 : (⟨#[49, 50, 53, 48]⟩ : ByteArray).size = 4 := rfl
  have z1 : (⟨#[49]⟩ : ByteArray).size = 1 := rfl
  have z2 : (⟨#[50, 53, 48]⟩ : ByteArray).size = 3 := rfl
  go_enter Tryd.func26, Tryd.ntmps26
  go_wp2_with (go_at_call 36; with_reducible refine (HV.out _).mono ?_; rintro e w' ⟨rfl, rfl⟩)
  go_region_held3 (fun W => P10 W) (first | with_reducible assumption | exact tabis_kept (w := w) hp (by repeat (first | with_reducible exact Kept.refl _ | with_reducible assumption | with_reducible refine Kept.setCell ?_ (by first | (simp; done) | (simp; omega) | omega) _ | with_reducible refine Kept.alloc ?_ _ | with_reducible refine Kept.drewN ?_ _ | with_reducible refine Kept.drew ?_ | with_reducible refine Kept.trans ?_ (by with_reducible assumption) | with_reducible refine Kept.dr ?_ (by with_reducible assumption)))) (first | (go_at_call 42; refine Calls.mono (F1.out _ ?hh) ?gg; (case hh => with_reducible assumption); rintro e w1 ⟨rfl, hk⟩))
  all_goals go_wp2_with (go_at_call 42; with_reducible refine (F2.out _).mono ?_; rintro e w' ⟨rfl, rfl⟩)
  all_goals go_ret2
  all_goals exact ⟨by first | rfl | decide +kernel, (by repeat (first | with_reducible exact Kept.refl _ | with_reducible assumption | with_reducible refine Kept.setCell ?_ (by first | (simp; done) | (simp; omega) | omega) _ | with_reducible refine Kept.alloc ?_ _ | with_reducible refine Kept.drewN ?_ _ | with_reducible refine Kept.drew ?_ | with_reducible refine Kept.trans ?_ (by with_reducible assumption) | with_reducible refine Kept.dr ?_ (by with_reducible assumption)))⟩
theorem n_tas : tV 250 1000000 0 = 290 ∧ tV 249 1000000 0 < 290 ∧ 291 ≤ tV 251 1000000 0 := by decide +kernel
theorem n_m : mV 661 0 0 = 999 ∧ oV 1000 0 0 = 662 ∧ hV 300 780 0 0 = 300 := by decide +kernel
theorem n_lst (t V a d : Int) (h : Ok2 a d) (v0 : 0 ≤ V) (v1 : V ≤ 1000) (hy : t ≤ tV V a d) (hn : 0 = V ∨ tV (V - 1) a d < t) : Lst (casP t a d) 0 1000 V :=
  lst_at _ 0 1000 V (cas_mono h) v0 v1 (by unfold casP; simpa using hy) (hn.imp id fun k => by unfold casP; simpa using k)
theorem n_cro0 : Lst (croP 300 0 0) (-200000) 6000000 (-200000) :=
  lst_at _ _ _ _ (cro_mono (by omega) (by omega) (by omega) (by omega)) (by omega) (by omega) (by decide +kernel) (Or.inl rfl)
theorem n_cro1 : croP 0 1 0 6000000 = false := by decide +kernel
theorem c_tas (w : World) (ht : Hid (Tab w)) : Calls Tryd.prog 11 #[.int .i64 250, .int .i64 1000000, .int .i64 0] w fun e w' => e = .returned (.tuple #[.int .i64 (290), .int .i64 (0)]) ∧ Kept w w' := by
  have h := tas_ok 250 1000000 0 (by omega) (by omega) ⟨by omega, by omega, by omega, by omega⟩ w ht
  rw [n_tas.1] at h
  exact h
theorem c_cas0 (w : World) (ht : Hid (Tab w)) : Calls Tryd.prog 17 #[.int .i64 290, .int .i64 1000000, .int .i64 0] w fun e w' => e = .returned (.tuple #[.int .i64 (250), .int .i64 (0)]) ∧ Kept w w' := by
  exact cas_ok 290 1000000 0 250 (n_lst 290 250 1000000 0 ⟨by omega, by omega, by omega, by omega⟩ (by omega) (by omega) (by rw [n_tas.1]; omega) (Or.inr (by exact n_tas.2.1))) (by omega) (by omega) ⟨by omega, by omega, by omega, by omega⟩ w ht
theorem c_cas1 (w : World) (ht : Hid (Tab w)) : Calls Tryd.prog 17 #[.int .i64 291, .int .i64 1000000, .int .i64 0] w fun e w' => e = .returned (.tuple #[.int .i64 (251), .int .i64 (0)]) ∧ Kept w w' := by
  exact cas_ok 291 1000000 0 251 (n_lst 291 251 1000000 0 ⟨by omega, by omega, by omega, by omega⟩ (by omega) (by omega) n_tas.2.2 (Or.inr (by show tV 250 1000000 0 < 291; rw [n_tas.1]; omega))) (by omega) (by omega) ⟨by omega, by omega, by omega, by omega⟩ w ht
theorem c_mach (w : World) (ht : Hid (Tab w)) : Calls Tryd.prog 13 #[.int .i64 661, .int .i64 0, .int .i64 0] w fun e w' => e = .returned (.tuple #[.int .i64 (999), .int .i64 (0)]) ∧ Kept w w' := by
  have h := mach_ok 661 0 0 (by omega) (by omega) ⟨by omega, by omega, by omega, by omega⟩ w ht
  rw [n_m.1] at h
  exact h
theorem c_of (w : World) (ht : Hid (Tab w)) : Calls Tryd.prog 19 #[.int .i64 1000, .int .i64 0, .int .i64 0] w fun e w' => e = .returned (.tuple #[.int .i64 (662), .int .i64 (0)]) ∧ Kept w w' := by
  have h := ofmach_ok 1000 0 0 (by omega) (by omega) ⟨by omega, by omega, by omega, by omega⟩ w ht
  rw [n_m.2.1] at h
  exact h
theorem c_sch (w : World) (ht : Hid (Tab w)) : Calls Tryd.prog 15 #[.int .i64 300, .int .i64 780, .int .i64 0, .int .i64 0] w fun e w' => e = .returned (.tuple #[.int .i64 (300), .int .i64 (0)]) ∧ Kept w w' := by
  have h := sch_ok 300 780 0 0 (by omega) (by omega) (by omega) (by omega) ⟨by omega, by omega, by omega, by omega⟩ w ht
  rw [n_m.2.2] at h
  exact h
theorem c_cro0 (w : World) (ht : Hid (Tab w)) : Calls Tryd.prog 21 #[.int .i64 300, .int .i64 0, .int .i64 0] w fun e w' => e = .returned (.tuple #[.int .i64 (-200000), .int .i64 (0)]) ∧ Kept w w' := by
  exact cro_ok 300 0 0 (-200000) n_cro0 (by omega) (by omega) (by omega) (by omega) (by omega) (by omega) w ht
theorem c_cro1 (w : World) (ht : Hid (Tab w)) : Calls Tryd.prog 21 #[.int .i64 0, .int .i64 1, .int .i64 0] w fun e w' => e = .returned (.tuple #[.int .i64 (0), .int .i64 (2)]) ∧ Kept w w' := by
  exact cro_rng 0 1 0 n_cro1 (by omega) (by omega) (by omega) (by omega) (by omega) (by omega) w ht
set_option maxHeartbeats 2000000 in
set_option maxRecDepth 100000 in
theorem awake_w (w : World) (ht : Hid (T3 w)) : Calls Tryd.prog 10 #[] w fun e w' => e = .returned (.bool true) ∧ Kept w w' := by
  have Hc_tas := Lib.hid (fun W (k : Kept w W) => c_tas W (Lib.hid (t3_kept ht.out k).1))
  have Hc_cas0 := Lib.hid (fun W (k : Kept w W) => c_cas0 W (Lib.hid (t3_kept ht.out k).1))
  have Hc_cas1 := Lib.hid (fun W (k : Kept w W) => c_cas1 W (Lib.hid (t3_kept ht.out k).1))
  have Hc_mach := Lib.hid (fun W (k : Kept w W) => c_mach W (Lib.hid (t3_kept ht.out k).1))
  have Hc_of := Lib.hid (fun W (k : Kept w W) => c_of W (Lib.hid (t3_kept ht.out k).1))
  have Hc_sch := Lib.hid (fun W (k : Kept w W) => c_sch W (Lib.hid (t3_kept ht.out k).1))
  have Hc_cro0 := Lib.hid (fun W (k : Kept w W) => c_cro0 W (Lib.hid (t3_kept ht.out k).1))
  have Hc_cro1 := Lib.hid (fun W (k : Kept w W) => c_cro1 W (Lib.hid (t3_kept ht.out k).1))
  have Hmt := Lib.hid (fun W (k : Kept w W) => l_mtext W (Lib.hid (t3_kept ht.out k).2))
  go_enter Tryd.func10, Tryd.ntmps10
  go_wp2_with fail
  refine (Hc_tas.out _ (by repeat (first | with_reducible exact Kept.refl _ | with_reducible assumption | with_reducible refine Kept.setCell ?_ (by first | (simp; done) | (simp; omega) | omega) _ | with_reducible refine Kept.alloc ?_ _ | with_reducible refine Kept.drewN ?_ _ | with_reducible refine Kept.drew ?_ | with_reducible refine Kept.trans ?_ (by with_reducible assumption) | with_reducible refine Kept.dr ?_ (by with_reducible assumption)))).mono ?_
  rintro e w1 ⟨rfl, hk1⟩
  go_wp2_with fail
  refine (Hc_cas0.out _ (by repeat (first | with_reducible exact Kept.refl _ | with_reducible assumption | with_reducible refine Kept.setCell ?_ (by first | (simp; done) | (simp; omega) | omega) _ | with_reducible refine Kept.alloc ?_ _ | with_reducible refine Kept.drewN ?_ _ | with_reducible refine Kept.drew ?_ | with_reducible refine Kept.trans ?_ (by with_reducible assumption) | with_reducible refine Kept.dr ?_ (by with_reducible assumption)))).mono ?_
  rintro e w2 ⟨rfl, hk2⟩
  go_wp2_with fail
  refine (Hc_cas1.out _ (by repeat (first | with_reducible exact Kept.refl _ | with_reducible assumption | with_reducible refine Kept.setCell ?_ (by first | (simp; done) | (simp; omega) | omega) _ | with_reducible refine Kept.alloc ?_ _ | with_reducible refine Kept.drewN ?_ _ | with_reducible refine Kept.drew ?_ | with_reducible refine Kept.trans ?_ (by with_reducible assumption) | with_reducible refine Kept.dr ?_ (by with_reducible assumption)))).mono ?_
  rintro e w3 ⟨rfl, hk3⟩
  go_wp2_with fail
  refine (Hc_mach.out _ (by repeat (first | with_reducible exact Kept.refl _ | with_reducible assumption | with_reducible refine Kept.setCell ?_ (by first | (simp; done) | (simp; omega) | omega) _ | with_reducible refine Kept.alloc ?_ _ | with_reducible refine Kept.drewN ?_ _ | with_reducible refine Kept.drew ?_ | with_reducible refine Kept.trans ?_ (by with_reducible assumption) | with_reducible refine Kept.dr ?_ (by with_reducible assumption)))).mono ?_
  rintro e w4 ⟨rfl, hk4⟩
  go_wp2_with fail
  refine (Hc_of.out _ (by repeat (first | with_reducible exact Kept.refl _ | with_reducible assumption | with_reducible refine Kept.setCell ?_ (by first | (simp; done) | (simp; omega) | omega) _ | with_reducible refine Kept.alloc ?_ _ | with_reducible refine Kept.drewN ?_ _ | with_reducible refine Kept.drew ?_ | with_reducible refine Kept.trans ?_ (by with_reducible assumption) | with_reducible refine Kept.dr ?_ (by with_reducible assumption)))).mono ?_
  rintro e w5 ⟨rfl, hk5⟩
  go_wp2_with fail
  refine (Hc_sch.out _ (by repeat (first | with_reducible exact Kept.refl _ | with_reducible assumption | with_reducible refine Kept.setCell ?_ (by first | (simp; done) | (simp; omega) | omega) _ | with_reducible refine Kept.alloc ?_ _ | with_reducible refine Kept.drewN ?_ _ | with_reducible refine Kept.drew ?_ | with_reducible refine Kept.trans ?_ (by with_reducible assumption) | with_reducible refine Kept.dr ?_ (by with_reducible assumption)))).mono ?_
  rintro e w6 ⟨rfl, hk6⟩
  go_wp2_with fail
  refine (Hc_cro0.out _ (by repeat (first | with_reducible exact Kept.refl _ | with_reducible assumption | with_reducible refine Kept.setCell ?_ (by first | (simp; done) | (simp; omega) | omega) _ | with_reducible refine Kept.alloc ?_ _ | with_reducible refine Kept.drewN ?_ _ | with_reducible refine Kept.drew ?_ | with_reducible refine Kept.trans ?_ (by with_reducible assumption) | with_reducible refine Kept.dr ?_ (by with_reducible assumption)))).mono ?_
  rintro e w7 ⟨rfl, hk7⟩
  go_wp2_with fail
  refine (Hc_cro1.out _ (by repeat (first | with_reducible exact Kept.refl _ | with_reducible assumption | with_reducible refine Kept.setCell ?_ (by first | (simp; done) | (simp; omega) | omega) _ | with_reducible refine Kept.alloc ?_ _ | with_reducible refine Kept.drewN ?_ _ | with_reducible refine Kept.drew ?_ | with_reducible refine Kept.trans ?_ (by with_reducible assumption) | with_reducible refine Kept.dr ?_ (by with_reducible assumption)))).mono ?_
  rintro e w8 ⟨rfl, hk8⟩
  go_wp2_with fail
  refine (Hmt.out _ (by repeat (first | with_reducible exact Kept.refl _ | with_reducible assumption | with_reducible refine Kept.setCell ?_ (by first | (simp; done) | (simp; omega) | omega) _ | with_reducible refine Kept.alloc ?_ _ | with_reducible refine Kept.drewN ?_ _ | with_reducible refine Kept.drew ?_ | with_reducible refine Kept.trans ?_ (by with_reducible assumption) | with_reducible refine Kept.dr ?_ (by with_reducible assumption)))).mono ?_
  rintro e w9 ⟨rfl, hk9⟩
  go_wp2_with fail
  with_reducible refine (l_parse1 _).mono ?_
  rintro e w10 ⟨rfl, hk10⟩
  go_wp2_with fail
  with_reducible refine (l_parse2 _).mono ?_
  rintro e w11 ⟨rfl, hk11⟩
  go_wp2_with fail
  all_goals go_ret
  all_goals exact ⟨rfl, (by repeat (first | with_reducible exact Kept.refl _ | with_reducible assumption | with_reducible refine Kept.setCell ?_ (by first | (simp; done) | (simp; omega) | omega) _ | with_reducible refine Kept.alloc ?_ _ | with_reducible refine Kept.drewN ?_ _ | with_reducible refine Kept.drew ?_ | with_reducible refine Kept.trans ?_ (by with_reducible assumption) | with_reducible refine Kept.dr ?_ (by with_reducible assumption)))⟩
end Go.Proofs.YtfkgghjinkmpiaaDoor
