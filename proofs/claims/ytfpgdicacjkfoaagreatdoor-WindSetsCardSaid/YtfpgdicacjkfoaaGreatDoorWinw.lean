/-
  Own contracts: layer 13: the chapter's texts.
-/
import Derived.Test.YtfpgdicacjkfoaaGreatDoorWing
import Derived.Test.YtfpgdicacjkfoaaGreatDoorWinb
import Derived.Test.YtfpgdicacjkfoaaGreatDoorWinc
import Derived.Test.YtfpgdicacjkfoaaGreatDoorFmti
import Derived.OwnWalk
import Derived.WalkKit
import Derived.ProofKit
import Derived.OpenShut
import Derived.WalkLawsBesides
import Derived.WalkSpells
import Derived.Lib.Hide
import Derived.Deep.DeepCutAuto
import Derived.Deep.CutBlock
import Derived.Deep.QuietTactic
import Derived.BigQuiet
import Derived.Handy
import Derived.StillTailTactics
import Derived.IntWalk
import Derived.LoopN
import Derived.Deep.RegionHeld3
namespace Go.Proofs.YtfpgdicacjkfoaaGreatDoor
open Go.ChangeShapes Go.WideShapes Go.ChangeAt Go.RowKit
set_option linter.unusedVariables false
set_option linter.unusedSimpArgs false
theorem ret_sb {s t : ByteArray} {x y : Bool} (h : s = t) (k : x = y) : Ending.returned (.tuple #[.string s, .bool x]) = .returned (.tuple #[.string t, .bool y]) := by rw [h, k]
theorem l_cp0 (w : World) : Calls Tryz.prog 67 #[.string ⟨#[45, 48]⟩, .string ⟨#[45]⟩] w fun e w' => e = .returned (.tuple #[.string ⟨#[48]⟩, .bool true]) ∧ w = w' := by
  have h := Tryz.strings_CutPrefix (⟨#[45, 48]⟩ : ByteArray) (⟨#[45]⟩ : ByteArray) w
  refine h.mono fun e w' ⟨a, b⟩ => ⟨?_, b.symm⟩
  rw [a]
  exact ret_sb (by decide +kernel) (by decide +kernel)
theorem l_cp1 (w : World) : Calls Tryz.prog 67 #[.string ⟨#[49]⟩, .string ⟨#[45]⟩] w fun e w' => e = .returned (.tuple #[.string ⟨#[49]⟩, .bool false]) ∧ w = w' := by
  have h := Tryz.strings_CutPrefix (⟨#[49]⟩ : ByteArray) (⟨#[45]⟩ : ByteArray) w
  refine h.mono fun e w' ⟨a, b⟩ => ⟨?_, b.symm⟩
  rw [a]
  exact ret_sb (by decide +kernel) (by decide +kernel)
theorem l_ix (w : World) : Calls Tryz.prog 86 #[.string ⟨#[45, 48, 44, 49]⟩, .string ⟨#[44]⟩] w fun e w' => e = .returned (.int .i64 2) ∧ w = w' := by
  have h := Tryz.stringslite_Index_one (⟨#[45, 48, 44, 49]⟩ : ByteArray) 44 w
  refine h.mono fun e w' ⟨a, b⟩ => ⟨?_, b.symm⟩
  rw [a, show Lib.indexByte (⟨#[45, 48, 44, 49]⟩ : ByteArray).data.toList 44 = 2 by decide +kernel]
set_option maxHeartbeats 2000000 in
set_option maxRecDepth 100000 in
theorem l_cut1  (w : World) : Calls Tryz.prog 66 #[.string ⟨#[45, 48, 44, 49]⟩, .string ⟨#[44]⟩] w fun e w' => e = .returned (.tuple #[.string ⟨#[45, 48]⟩, .string ⟨#[49]⟩, .bool true]) ∧ Dr w w' := by
  have z0 : (⟨#[45, 48, 44, 49]⟩ : ByteArray).size = 4 := rfl
  have z1 : (⟨#[44]⟩ : ByteArray).size = 1 := rfl
  have x1 : (⟨#[45, 48, 44, 49]⟩ : ByteArray).extract 0 2 = ⟨#[45, 48]⟩ := by decide +kernel
  have x2 : (⟨#[45, 48, 44, 49]⟩ : ByteArray).extract 3 4 = ⟨#[49]⟩ := by decide +kernel
  go_enter Tryz.func66, Tryz.ntmps66
  go_wp2_with (go_at_call 86; with_reducible refine (l_ix _).mono ?_; rintro e w' ⟨rfl, rfl⟩)
  all_goals (try (go_quiet (fail); go_wp2))
  all_goals go_ret3
  all_goals exact ⟨by first | rfl | simp [*], (by repeat (first | exact Dr.refl _ | refine Dr.drewN ?_ _ | refine Dr.drew ?_))⟩
set_option maxHeartbeats 2000000 in
set_option maxRecDepth 100000 in
theorem l_cut  (w : World) : Calls Tryz.prog 50 #[.string ⟨#[45, 48, 44, 49]⟩, .string ⟨#[44]⟩] w fun e w' => e = .returned (.tuple #[.string ⟨#[45, 48]⟩, .string ⟨#[49]⟩, .bool true]) ∧ Kept w w' := by
  go_enter Tryz.func50, Tryz.ntmps50
  go_wp2_with (go_at_call 66; with_reducible refine (l_cut1 _).mono ?_; rintro e w' ⟨rfl, hd⟩)
  all_goals go_ret3
  all_goals exact ⟨rfl, (by repeat (first | with_reducible exact Kept.refl _ | with_reducible refine Kept.dr ?_ (by with_reducible assumption)))⟩
set_option maxHeartbeats 2000000 in
set_option maxRecDepth 100000 in
theorem l_dig48  (w : World) : Calls Tryz.prog 88 #[.int .u8 48] w fun e w' => e = .returned (.bool true) ∧ w = w' := by
  go_enter Tryz.func88, Tryz.ntmps88
  go_wp2
  all_goals go_ret
  all_goals exact ⟨rfl, rfl⟩
set_option maxHeartbeats 2000000 in
set_option maxRecDepth 100000 in
theorem l_dig49  (w : World) : Calls Tryz.prog 88 #[.int .u8 49] w fun e w' => e = .returned (.bool true) ∧ w = w' := by
  go_enter Tryz.func88, Tryz.ntmps88
  go_wp2
  all_goals go_ret
  all_goals exact ⟨rfl, rfl⟩
set_option maxHeartbeats 2000000 in
set_option maxRecDepth 100000 in
theorem l_who0  (w : World) : Calls Tryz.prog 68 #[.string ⟨#[48]⟩] w fun e w' => e = .returned (.tuple #[.int .i64 0, .bool true]) ∧ w = w' := by
  have z0 : (⟨#[48]⟩ : ByteArray).size = 1 := rfl
  have i0 : ((⟨#[48]⟩ : ByteArray)[0]'(by decide)).toNat = 48 := rfl
  have e0 : ((⟨#[48]⟩ : ByteArray) == ByteArray.empty) = false := by decide +kernel
  have bm : ∀ (ts : Array TypeId) (ty : TypeId) (w : World), (Builtin.min_ ts ty #[.int .i64 1099511627776, .int .i64 0]).run Tryz.prog w = .ok (.int .i64 0) w := fun ts ty w => by rw [run_mn2, show mni 1099511627776 0 = 0 by decide]
  go_enter Tryz.func68, Tryz.ntmps68
  go_wp2_with fail
  refine wp_loop_rounds 2 ?_
  repeat (rw [rounds_succ]; go_wp2_with (go_at_call 88; with_reducible refine (l_dig48 _).mono ?_; rintro e w' ⟨rfl, rfl⟩))
  all_goals go_ret2
  all_goals exact ⟨rfl, rfl⟩
set_option maxHeartbeats 2000000 in
set_option maxRecDepth 100000 in
theorem l_who1  (w : World) : Calls Tryz.prog 68 #[.string ⟨#[49]⟩] w fun e w' => e = .returned (.tuple #[.int .i64 1, .bool true]) ∧ w = w' := by
  have z0 : (⟨#[49]⟩ : ByteArray).size = 1 := rfl
  have i0 : ((⟨#[49]⟩ : ByteArray)[0]'(by decide)).toNat = 49 := rfl
  have e0 : ((⟨#[49]⟩ : ByteArray) == ByteArray.empty) = false := by decide +kernel
  have bm : ∀ (ts : Array TypeId) (ty : TypeId) (w : World), (Builtin.min_ ts ty #[.int .i64 1099511627776, .int .i64 1]).run Tryz.prog w = .ok (.int .i64 1) w := fun ts ty w => by rw [run_mn2, show mni 1099511627776 1 = 1 by decide]
  go_enter Tryz.func68, Tryz.ntmps68
  go_wp2_with fail
  refine wp_loop_rounds 2 ?_
  repeat (rw [rounds_succ]; go_wp2_with (go_at_call 88; with_reducible refine (l_dig49 _).mono ?_; rintro e w' ⟨rfl, rfl⟩))
  all_goals go_ret2
  all_goals exact ⟨rfl, rfl⟩
theorem kept_bytes (w : World) (t5 : TypeId) (t : ByteArray) : Kept w (Lib.bytesWorld w t5 t) :=
  ⟨(Lib.bytesWorld_below w t5 t).os, (Lib.bytesWorld_below w t5 t).output, by rw [Lib.bytesWorld_size]; omega, fun k hk => Lib.bytesWorld_at_old w t5 t k hk⟩
theorem l_pi (w : World) : Calls Tryz.prog 69 #[.string ⟨#[49]⟩, .int .i64 10, .int .i64 64] w fun e w' => e = .returned (.tuple #[.int .i64 1, .nilIface]) ∧ Kept w w' := by
  have h := Tryz.strconv_ParseInt_10_at64_ok (⟨#[49]⟩ : ByteArray) (by show (1 : Nat) ≤ _; omega) 1 (by rfl) w
  refine h.mono ?_
  rintro e w' ⟨rfl, rfl | ⟨t, rfl⟩⟩
  · exact ⟨rfl, Kept.refl _⟩
  · exact ⟨rfl, kept_bytes _ _ _⟩
set_option maxHeartbeats 2000000 in
set_option maxRecDepth 100000 in
theorem l_pn0  (w : World) : Calls Tryz.prog 51 #[.string ⟨#[45, 48]⟩, .int .i64 (-400), .int .i64 400] w fun e w' => e = .returned (.tuple #[.int .i64 0, .int .i64 4]) ∧ w = w' := by
  have z0 : (⟨#[48]⟩ : ByteArray).size = 1 := rfl
  have z1 : (⟨#[45, 48]⟩ : ByteArray).size = 2 := rfl
  go_enter Tryz.func51, Tryz.ntmps51
  go_wp2_with fail
  with_reducible refine (l_cp0 _).mono ?_
  rintro e w' ⟨rfl, rfl⟩
  go_wp2_with fail
  with_reducible refine (l_who0 _).mono ?_
  rintro e w' ⟨rfl, rfl⟩
  go_wp2_with fail
  all_goals go_ret2
  all_goals exact ⟨rfl, rfl⟩
set_option maxHeartbeats 2000000 in
set_option maxRecDepth 100000 in
theorem l_pn1  (w : World) : Calls Tryz.prog 51 #[.string ⟨#[49]⟩, .int .i64 (-400), .int .i64 400] w fun e w' => e = .returned (.tuple #[.int .i64 1, .int .i64 0]) ∧ Kept w w' := by
  have z0 : (⟨#[49]⟩ : ByteArray).size = 1 := rfl
  go_enter Tryz.func51, Tryz.ntmps51
  go_wp2_with fail
  with_reducible refine (l_cp1 _).mono ?_
  rintro e w' ⟨rfl, rfl⟩
  go_wp2_with fail
  with_reducible refine (l_who1 _).mono ?_
  rintro e w' ⟨rfl, rfl⟩
  go_wp2_with fail
  with_reducible refine (l_pi _).mono ?_
  rintro e w3 ⟨rfl, hk3⟩
  go_wp2_with fail
  all_goals go_ret2
  all_goals exact ⟨rfl, (by repeat (first | with_reducible exact Kept.refl _ | with_reducible assumption | with_reducible refine Kept.setCell ?_ (by first | (simp; done) | (simp; omega) | omega) _ | with_reducible refine Kept.alloc ?_ _ | with_reducible refine Kept.drewN ?_ _ | with_reducible refine Kept.drew ?_ | with_reducible refine Kept.trans ?_ (by with_reducible assumption) | with_reducible refine Kept.dr ?_ (by with_reducible assumption)))⟩
set_option maxHeartbeats 2000000 in
set_option maxRecDepth 100000 in
theorem l_parse  (w : World) : Calls Tryz.prog 26 #[.string ⟨#[45, 48, 44, 49]⟩] w fun e w' => e = .returned (.tuple #[.agg #[.int .i64 0, .int .i64 0], .int .i64 4]) ∧ Kept w w' := by
  go_enter Tryz.func26, Tryz.ntmps26
  go_wp2_with fail
  with_reducible refine (l_cut _).mono ?_
  rintro e w1 ⟨rfl, hk1⟩
  refine kuse (b := w.heap.size) hk1 (by first | (simp; done) | (simp; omega) | omega) ?_
  intro ha hb
  have hz1_0 : w.heap.size < w1.heap.size := by have := hk1.size; (try simp at this); omega
  have hn1_0 : ¬ w.heap.size = w1.heap.size := by omega
  have hm1_0 : ¬ w1.heap.size = w.heap.size := by omega
  have hf1_0_0 : w1.cell? ⟨w.heap.size, 0, none⟩ = some (.int .i64 0) := by first | (rw [ha]; with_reducible assumption) | (simp (maxDischargeDepth := 7) [go_sem, ha]; done) | (rw [ha]; assumption) | (simp (maxDischargeDepth := 7) [go_sem, ha, *]; done)
  have hf1_0_1 : w1.cell? ⟨w.heap.size, 1, none⟩ = some (.int .i64 0) := by first | (rw [ha]; with_reducible assumption) | (simp (maxDischargeDepth := 7) [go_sem, ha]; done) | (rw [ha]; assumption) | (simp (maxDischargeDepth := 7) [go_sem, ha, *]; done)
  try have hg1_0 : ∀ o, w1.frozen? ⟨w.heap.size, o, none⟩ = false := by intro o; first | (simp (maxDischargeDepth := 7) [go_sem, hb]; done) | (rw [hb]; simp (maxDischargeDepth := 7) [go_sem, *]; done)
  clear ha hb
  go_wp2_with fail
  with_reducible refine (l_pn0 _).mono ?_
  rintro e w' ⟨rfl, rfl⟩
  go_wp2_with fail
  with_reducible refine (l_pn1 _).mono ?_
  rintro e w3 ⟨rfl, hk3⟩
  refine kuse (b := w.heap.size) hk3 (by first | (simp; done) | (simp; omega) | omega) ?_
  intro ha hb
  have hz3_0 : w.heap.size < w3.heap.size := by have := hk3.size; (try simp at this); omega
  have hn3_0 : ¬ w.heap.size = w3.heap.size := by omega
  have hm3_0 : ¬ w3.heap.size = w.heap.size := by omega
  have hf3_0_0 : w3.cell? ⟨w.heap.size, 0, none⟩ = some (.int .i64 0) := by first | (rw [ha]; with_reducible assumption) | (simp (maxDischargeDepth := 7) [go_sem, ha]; done) | (rw [ha]; assumption) | (simp (maxDischargeDepth := 7) [go_sem, ha, *]; done)
  have hf3_0_1 : w3.cell? ⟨w.heap.size, 1, none⟩ = some (.int .i64 0) := by first | (rw [ha]; with_reducible assumption) | (simp (maxDischargeDepth := 7) [go_sem, ha]; done) | (rw [ha]; assumption) | (simp (maxDischargeDepth := 7) [go_sem, ha, *]; done)
  try have hg3_0 : ∀ o, w3.frozen? ⟨w.heap.size, o, none⟩ = false := by intro o; first | (simp (maxDischargeDepth := 7) [go_sem, hb]; done) | (rw [hb]; simp (maxDischargeDepth := 7) [go_sem, *]; done)
  clear ha hb
  try clear hf1_0_0
  try clear hf1_0_1
  try clear hg1_0
  go_wp2_with fail
  all_goals exact bodyPost_ret (v := .tuple #[.agg #[.int .i64 0, .int .i64 0], .int .i64 4]) (by first | (simp [results, Tryz.results26, go_sem]; done) | (simp (maxDischargeDepth := 7) [results, Tryz.results26, go_sem, *]; done)) rfl ⟨rfl, (by repeat (first | with_reducible exact Kept.refl _ | with_reducible assumption | with_reducible refine Kept.setCell ?_ (by first | (simp; done) | (simp; omega) | omega) _ | with_reducible refine Kept.alloc ?_ _ | with_reducible refine Kept.drewN ?_ _ | with_reducible refine Kept.drew ?_ | with_reducible refine Kept.trans ?_ (by with_reducible assumption) | with_reducible refine Kept.dr ?_ (by with_reducible assumption)))⟩
theorem l_fn (w : World) (hP : Hid (P10 w)) : Calls Tryz.prog 49 #[.int .i64 (-3), .int .i64 10] w fun e w' => e = .returned (.string ⟨#[45, 51]⟩) ∧ Kept w w' := by
  have h := Tryz.strconv_FormatInt_10 (-3) (by omega) (by omega) w hP.out
  refine h.mono ?_
  rintro e w' ⟨rfl, k, os, rfl⟩
  refine ⟨by rw [show Lib.itoa (-3) = [45, 51] by decide +kernel], ?_⟩
  first | exact (kept_grow _ _).trans' | exact Kept.trans ((Kept.refl w).drewN k) (kept_grow _ _)
set_option maxHeartbeats 2000000 in
set_option maxRecDepth 100000 in
theorem l_text (w : World) (hP : Hid (P10 w)) : Calls Tryz.prog 25 #[.agg #[.int .i64 12, .int .i64 (-3)]] w fun e w' => e = .returned (.tuple #[.string ⟨#[49, 50, 44, 45, 51]⟩, .int .i64 0]) ∧ Kept w w' := by
  have hp := hP.out
  have F1 := Lib.hid (fmt_small 12 (by omega) (by omega) (⟨#[49, 50]⟩ : ByteArray) (by decide +kernel))
  have HV := fun W => wvalid_w 12 (-3) W
  rw [show wok 12 (-3) = true by decide] at HV
  have F2 : Hid (∀ W, P10 W → Calls Tryz.prog 49 #[.int .i64 (-3), .int .i64 10] W fun e w' => e = .returned (.string ⟨#[45, 51]⟩) ∧ Kept W w') := Lib.hid (fun W (h : P10 W) => l_fn W (Lib.hid h))
  have z0 : (⟨#[49, 50]⟩ : ByteArray).size = 2 := rfl
  have z1 : (⟨#[45, 51]⟩ : ByteArray).size = 2 := rfl
  go_enter Tryz.func25, Tryz.ntmps25
  go_wp2_with fail
  with_reducible refine (HV _).mono ?_
  rintro e w1 ⟨rfl, hk1⟩
  refine kuse (b := w.heap.size) hk1 (by first | (simp; done) | (simp; omega) | omega) ?_
  intro ha hb
  have hz1_0 : w.heap.size < w1.heap.size := by have := hk1.size; (try simp at this); omega
  have hn1_0 : ¬ w.heap.size = w1.heap.size := by omega
  have hm1_0 : ¬ w1.heap.size = w.heap.size := by omega
  have hf1_0_0 : w1.cell? ⟨w.heap.size, 0, none⟩ = some (.int .i64 12) := by first | (rw [ha]; with_reducible assumption) | (simp (maxDischargeDepth := 7) [go_sem, ha]; done) | (rw [ha]; assumption) | (simp (maxDischargeDepth := 7) [go_sem, ha, *]; done)
  have hf1_0_1 : w1.cell? ⟨w.heap.size, 1, none⟩ = some (.int .i64 (-3)) := by first | (rw [ha]; with_reducible assumption) | (simp (maxDischargeDepth := 7) [go_sem, ha]; done) | (rw [ha]; assumption) | (simp (maxDischargeDepth := 7) [go_sem, ha, *]; done)
  try have hg1_0 : ∀ o, w1.frozen? ⟨w.heap.size, o, none⟩ = false := by intro o; first | (simp (maxDischargeDepth := 7) [go_sem, hb]; done) | (rw [hb]; simp (maxDischargeDepth := 7) [go_sem, *]; done)
  clear ha hb
  go_wp2_with fail
  have hp2 : P10 w1 := tabis_kept (w := w) hp (by repeat (first | with_reducible exact Kept.refl _ | with_reducible assumption | with_reducible refine Kept.setCell ?_ (by first | (simp; done) | (simp; omega) | omega) _ | with_reducible refine Kept.alloc ?_ _ | with_reducible refine Kept.drewN ?_ _ | with_reducible refine Kept.drew ?_ | with_reducible refine Kept.trans ?_ (by with_reducible assumption) | with_reducible refine Kept.dr ?_ (by with_reducible assumption)))
  go_region_held3 (fun W => P10 W ∧ W.cell? ⟨w.heap.size, 0, none⟩ = some (.int .i64 12) ∧ W.cell? ⟨w.heap.size, 1, none⟩ = some (.int .i64 (-3))) (first | (refine ⟨?_, ?_, ?_⟩ <;> first | with_reducible assumption | exact tabis_kept (w := w) hp (by repeat (first | with_reducible exact Kept.refl _ | with_reducible assumption | with_reducible refine Kept.setCell ?_ (by first | (simp; done) | (simp; omega) | omega) _ | with_reducible refine Kept.alloc ?_ _ | with_reducible refine Kept.drewN ?_ _ | with_reducible refine Kept.drew ?_ | with_reducible refine Kept.trans ?_ (by with_reducible assumption) | with_reducible refine Kept.dr ?_ (by with_reducible assumption))) | (simp (maxDischargeDepth := 9) [*, World.cell?_alloc_some, World.cell?_setCell_far]; done) | (simp (maxDischargeDepth := 9) [go_sem, *]; done)) | (first | with_reducible assumption | exact tabis_kept (w := w) hp (by repeat (first | with_reducible exact Kept.refl _ | with_reducible assumption | with_reducible refine Kept.setCell ?_ (by first | (simp; done) | (simp; omega) | omega) _ | with_reducible refine Kept.alloc ?_ _ | with_reducible refine Kept.drewN ?_ _ | with_reducible refine Kept.drew ?_ | with_reducible refine Kept.trans ?_ (by with_reducible assumption) | with_reducible refine Kept.dr ?_ (by with_reducible assumption))) | (simp (maxDischargeDepth := 9) [*, World.cell?_alloc_some, World.cell?_setCell_far]; done) | (simp (maxDischargeDepth := 9) [go_sem, *]; done)) | (go_keep; done)) (first | (go_at_call 49; with_reducible refine (F1.out _).mono ?_; rintro e w' ⟨rfl, rfl⟩) | (go_at_call 49; (first | refine Calls.mono (F2.out _ ?hh) ?gg; (case hh => first | with_reducible assumption | (exact tabis_kept (w := w) hp (by repeat (first | with_reducible exact Kept.refl _ | with_reducible assumption | with_reducible refine Kept.setCell ?_ (by first | (simp; done) | (simp; omega) | omega) _ | with_reducible refine Kept.alloc ?_ _ | with_reducible refine Kept.drewN ?_ _ | with_reducible refine Kept.drew ?_ | with_reducible refine Kept.trans ?_ (by with_reducible assumption) | with_reducible refine Kept.dr ?_ (by with_reducible assumption)))))); rintro e w' ⟨rfl, hk⟩; have hz := hk.size; (try (refine kuse (b := w.heap.size) hk (by first | (simp; done) | (simp; omega) | omega) ?_; intro hq0 hg0; have hy0 : w.heap.size < w'.heap.size := (by (try simp at hz); omega); have hn0 : ¬ w.heap.size = w'.heap.size := (by omega); have hm0 : ¬ w.heap.size = w'.heap.size + 1 := (by omega); refine withF (p := w'.cell? ⟨w.heap.size, 0, none⟩ = some (.int .i64 12)) (by first | (rw [hq0]; with_reducible assumption) | (simp (maxDischargeDepth := 7) [go_sem, hq0]; done) | (simp (maxDischargeDepth := 7) [go_sem, hq0, *]; done) | fail) ?_; intro ff00; refine withF (p := w'.cell? ⟨w.heap.size, 1, none⟩ = some (.int .i64 (-3))) (by first | (rw [hq0]; with_reducible assumption) | (simp (maxDischargeDepth := 7) [go_sem, hq0]; done) | (simp (maxDischargeDepth := 7) [go_sem, hq0, *]; done) | fail) ?_; intro ff01))))
  all_goals go_wp2_with fail
  all_goals go_ret2
  all_goals exact ⟨by first | rfl | decide +kernel, (by repeat (first | with_reducible exact Kept.refl _ | with_reducible assumption | with_reducible refine Kept.setCell ?_ (by first | (simp; done) | (simp; omega) | omega) _ | with_reducible refine Kept.alloc ?_ _ | with_reducible refine Kept.drewN ?_ _ | with_reducible refine Kept.drew ?_ | with_reducible refine Kept.trans ?_ (by with_reducible assumption) | with_reducible refine Kept.dr ?_ (by with_reducible assumption)))⟩
end Go.Proofs.YtfpgdicacjkfoaaGreatDoor
