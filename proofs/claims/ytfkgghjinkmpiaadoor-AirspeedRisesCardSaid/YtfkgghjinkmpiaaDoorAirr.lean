/-
  Own contracts: the document's answers of layer 29.
-/
import Derived.Test.YtfkgghjinkmpiaaDoorAirm
import Derived.Test.YtfkgghjinkmpiaaDoorLaid
import Derived.Test.YtfkgghjinkmpiaaDoorRefs
import Derived.WalkKit
import Derived.ProofKit
import Derived.OpenShut
import Derived.WalkLawsBesides
import Derived.WalkSpells
import Derived.Lib.Hide
import Derived.Deep.DeepCutAuto
import Derived.Deep.CutBlock
import Derived.Deep.QuietTactic
import Derived.BigQuiet
import Derived.Handy
import Derived.StillTailTactics
import Derived.IntWalk
import Derived.LoopN
import Derived.Deep.RegionHeld3
namespace Go.Proofs.YtfkgghjinkmpiaaDoor
open Go.ChangeShapes Go.WideShapes Go.ChangeAt Go.RowKit
set_option linter.unusedVariables false
set_option linter.unusedSimpArgs false

/-- two rows of numbers -/
def Two (w : World) (n : Nat) (F V : Nat → Int) (e : Ending) (w' : World) : Prop := ∃ g h, e = .returned (.tuple #[.slice (some ⟨g, 0, none⟩) n n, .slice (some ⟨h, 0, none⟩) n n]) ∧ Kept w w' ∧ (∀ i, i < n → w'.cell? ⟨g, i, none⟩ = some (.int .i64 (F i))) ∧ (∀ i, i < n → w'.cell? ⟨h, i, none⟩ = some (.int .i64 (V i)))
theorem two_of (w : World) (n : Nat) (F V : Nat → Int) (A B : Array Value) (tA tB : TypeId) (hA : ∀ i : Fin n, A[i.1]? = some (.int .i64 (F i.1))) (hB : ∀ i : Fin n, B[i.1]? = some (.int .i64 (V i.1))) :
    Kept w ((w.alloc (.cells A tA)).alloc (.cells B tB)) ∧ (∀ i, i < n → ((w.alloc (.cells A tA)).alloc (.cells B tB)).cell? ⟨w.heap.size, i, none⟩ = some (.int .i64 (F i))) ∧ (∀ i, i < n → ((w.alloc (.cells A tA)).alloc (.cells B tB)).cell? ⟨w.heap.size + 1, i, none⟩ = some (.int .i64 (V i))) := by
  refine ⟨((Kept.refl w).alloc _).alloc _, fun i hi => ?_, fun i hi => ?_⟩
  · have h : (w.alloc (.cells A tA)).cell? ⟨w.heap.size, i, none⟩ = some (.int .i64 (F i)) := by rw [World.cell?_alloc_mark]; exact hA ⟨i, hi⟩
    exact (World.cell?_alloc_some _ _ _ (by rw [h]; rfl)).trans h
  · have e : w.heap.size + 1 = (w.alloc (.cells A tA)).heap.size := by simp
    rw [e, World.cell?_alloc_mark]; exact hB ⟨i, hi⟩
theorem prs_rowF : ∀ i : Fin 14, (#[.int .i64 (-2000), .int .i64 0, .int .i64 5000, .int .i64 10000, .int .i64 15000, .int .i64 20000, .int .i64 25000, .int .i64 30000, .int .i64 35000, .int .i64 40000, .int .i64 45000, .int .i64 50000, .int .i64 55000, .int .i64 60000] : Array Value)[i.1]? = some (.int .i64 (prsF i.1)) := by intro i; match i with | ⟨0, _⟩ => rfl | ⟨1, _⟩ => rfl | ⟨2, _⟩ => rfl | ⟨3, _⟩ => rfl | ⟨4, _⟩ => rfl | ⟨5, _⟩ => rfl | ⟨6, _⟩ => rfl | ⟨7, _⟩ => rfl | ⟨8, _⟩ => rfl | ⟨9, _⟩ => rfl | ⟨10, _⟩ => rfl | ⟨11, _⟩ => rfl | ⟨12, _⟩ => rfl | ⟨13, _⟩ => rfl
theorem prs_rowV : ∀ i : Fin 14, (#[.int .i64 1074400, .int .i64 1000000, .int .i64 832000, .int .i64 687700, .int .i64 564300, .int .i64 459500, .int .i64 371100, .int .i64 297000, .int .i64 235300, .int .i64 185100, .int .i64 145500, .int .i64 114500, .int .i64 90000, .int .i64 70800] : Array Value)[i.1]? = some (.int .i64 (prsV i.1)) := by intro i; match i with | ⟨0, _⟩ => rfl | ⟨1, _⟩ => rfl | ⟨2, _⟩ => rfl | ⟨3, _⟩ => rfl | ⟨4, _⟩ => rfl | ⟨5, _⟩ => rfl | ⟨6, _⟩ => rfl | ⟨7, _⟩ => rfl | ⟨8, _⟩ => rfl | ⟨9, _⟩ => rfl | ⟨10, _⟩ => rfl | ⟨11, _⟩ => rfl | ⟨12, _⟩ => rfl | ⟨13, _⟩ => rfl
set_option maxHeartbeats 4000000 in
set_option maxRecDepth 100000 in
theorem rows1_w (w : World) : Calls Tryd.prog 66 #[.int .i64 1] w (Two w 14 prsF prsV) := by
  go_enter Tryd.func66, Tryd.ntmps66
  go_wp2
  go_ret2
  obtain ⟨t1, t2, t3⟩ := two_of w 14 prsF prsV _ _ 2 2 prs_rowF prs_rowV
  exact ⟨w.heap.size, w.heap.size + 1, rfl, t1, t2, t3⟩
theorem rat_rowF : ∀ i : Fin 14, (#[.int .i64 (-2000), .int .i64 0, .int .i64 5000, .int .i64 10000, .int .i64 15000, .int .i64 20000, .int .i64 25000, .int .i64 30000, .int .i64 35000, .int .i64 40000, .int .i64 45000, .int .i64 50000, .int .i64 55000, .int .i64 60000] : Array Value)[i.1]? = some (.int .i64 (ratF i.1)) := by intro i; match i with | ⟨0, _⟩ => rfl | ⟨1, _⟩ => rfl | ⟨2, _⟩ => rfl | ⟨3, _⟩ => rfl | ⟨4, _⟩ => rfl | ⟨5, _⟩ => rfl | ⟨6, _⟩ => rfl | ⟨7, _⟩ => rfl | ⟨8, _⟩ => rfl | ⟨9, _⟩ => rfl | ⟨10, _⟩ => rfl | ⟨11, _⟩ => rfl | ⟨12, _⟩ => rfl | ⟨13, _⟩ => rfl
theorem rat_rowV : ∀ i : Fin 14, (#[.int .i64 971400, .int .i64 1000000, .int .i64 1077300, .int .i64 1163700, .int .i64 1260600, .int .i64 1370000, .int .i64 1493800, .int .i64 1634900, .int .i64 1796400, .int .i64 2015500, .int .i64 2272700, .int .i64 2562800, .int .i64 2890100, .int .i64 3259100] : Array Value)[i.1]? = some (.int .i64 (ratV i.1)) := by intro i; match i with | ⟨0, _⟩ => rfl | ⟨1, _⟩ => rfl | ⟨2, _⟩ => rfl | ⟨3, _⟩ => rfl | ⟨4, _⟩ => rfl | ⟨5, _⟩ => rfl | ⟨6, _⟩ => rfl | ⟨7, _⟩ => rfl | ⟨8, _⟩ => rfl | ⟨9, _⟩ => rfl | ⟨10, _⟩ => rfl | ⟨11, _⟩ => rfl | ⟨12, _⟩ => rfl | ⟨13, _⟩ => rfl
set_option maxHeartbeats 4000000 in
set_option maxRecDepth 100000 in
theorem rows2_w (w : World) : Calls Tryd.prog 66 #[.int .i64 2] w (Two w 14 ratF ratV) := by
  go_enter Tryd.func66, Tryd.ntmps66
  go_wp2
  go_ret2
  obtain ⟨t1, t2, t3⟩ := two_of w 14 ratF ratV _ _ 2 2 rat_rowF rat_rowV
  exact ⟨w.heap.size, w.heap.size + 1, rfl, t1, t2, t3⟩
theorem tmp_rowF : ∀ i : Fin 4, (#[.int .i64 (-2000), .int .i64 0, .int .i64 36089, .int .i64 60000] : Array Value)[i.1]? = some (.int .i64 (tmpF i.1)) := by intro i; match i with | ⟨0, _⟩ => rfl | ⟨1, _⟩ => rfl | ⟨2, _⟩ => rfl | ⟨3, _⟩ => rfl
theorem tmp_rowV : ∀ i : Fin 4, (#[.int .i64 29211, .int .i64 28815, .int .i64 21665, .int .i64 21665] : Array Value)[i.1]? = some (.int .i64 (tmpV i.1)) := by intro i; match i with | ⟨0, _⟩ => rfl | ⟨1, _⟩ => rfl | ⟨2, _⟩ => rfl | ⟨3, _⟩ => rfl
set_option maxHeartbeats 4000000 in
set_option maxRecDepth 100000 in
theorem rows3_w (w : World) : Calls Tryd.prog 66 #[.int .i64 3] w (Two w 4 tmpF tmpV) := by
  go_enter Tryd.func66, Tryd.ntmps66
  go_wp2
  go_ret2
  obtain ⟨t1, t2, t3⟩ := two_of w 4 tmpF tmpV _ _ 2 2 tmp_rowF tmp_rowV
  exact ⟨w.heap.size, w.heap.size + 1, rfl, t1, t2, t3⟩
theorem floor_part (a b c : Int) (h0 : 0 ≤ b) (h1 : b ≤ c) (h2 : 0 < c) (c1 : c ≤ 9223372036854775807) (a0 : -9000000 ≤ a) (a1 : a ≤ 9000000) (c2 : c ≤ 900000000000) (m y : Int) (hm : a * b = m) (hy : a * b / c = y) (w : World) :
    Calls Tryd.prog 67 #[.int .i64 m, .int .i64 c] w fun e w' => e = .returned (.tuple #[.int .i64 y, .int .i64 0]) ∧ w = w' := by
  have hp := part_bd a b c h0 h1 h2
  have hb : -9000000 ≤ a * b / c ∧ a * b / c ≤ 9000000 := by
    by_cases h : 0 ≤ a
    · have := hp.1 h; omega
    · have := hp.2 (by omega); omega
  have mb : -9000000 * 900000000000 ≤ m ∧ m ≤ 9000000 * 900000000000 := by
    rw [← hm]
    constructor
    · exact Int.le_trans (show (-9000000 * 900000000000 : Int) ≤ -9000000 * b by omega) (Int.mul_le_mul_of_nonneg_right a0 h0)
    · exact Int.le_trans (Int.mul_le_mul_of_nonneg_right a1 h0) (by omega)
  have h := ref_floor_w m c (by omega) (by omega) (by omega) (by omega) w
  have e : rnd 0 (m * 1) c = y := by unfold rnd; rw [if_pos rfl, Int.fdiv_eq_ediv_of_nonneg _ (by omega), Int.mul_one, ← hm]; exact hy
  have hf : fit64 (rnd 0 (m * 1) c) = true := by rw [e]; unfold fit64; refine decide_eq_true ?_; omega
  have e1 : mqv 0 m 1 c = y := by unfold mqv; rw [if_neg (show ¬ c = 0 by omega), if_pos hf, e]
  have e2 : mqe 0 m 1 c = 0 := by unfold mqe; rw [if_neg (show ¬ c = 0 by omega), if_pos hf]
  rwa [e1, e2] at h
set_option maxHeartbeats 4000000 in
set_option maxRecDepth 100000 in
theorem value2_w (alt : Int) (h0 : -200000 ≤ alt) (h1 : alt ≤ 6000000) (w : World) : Calls Tryd.prog 54 #[.int .i64 2, .int .i64 alt] w fun en w' => en = .returned (.int .i64 (rat alt)) ∧ Kept w w' := by
  go_enter Tryd.func54, Tryd.ntmps54
  go_wp2_with fail
  refine (rows2_w w).mono ?_
  rintro e w1 ⟨g, h, rfl, hk, hF, hV⟩
  have HF := Lib.hid hF
  have HV := Lib.hid hV
  clear hF hV
  go_wp2_with fail
  go_loop [7] (fun t => ∃ j : Nat, j < 13 ∧ t = .int .i64 (j : Int) ∧ ratF j * 100 ≤ alt) (fun t => 20 - (intOf t).toNat)
  case atStart => exact ⟨0, by omega, rfl, by simp [ratF]; omega⟩
  case round =>
    obtain ⟨j, hj, rfl, hlo⟩ := hrel
    have H0 := HF.out j (by omega)
    have H1 := HF.out (j + 1) (by omega)
    have H2 := HV.out j (by omega)
    have H3 := HV.out (j + 1) (by omega)
    have tb := rat_tab j (by omega)
    have at_ := rat_at j alt (by omega)
    have e13 : j + 1 = 13 → alt ≤ ratF (j + 1) * 100 := fun e => by rw [e]; simp [ratF]; omega
    generalize hf1 : ratF (j + 1) = f1 at H1 tb at_ e13
    have HF1 := Lib.hid hf1
    clear hf1
    generalize ratF j = f0 at H0 tb at_ hlo
    generalize ratV j = v0 at H2 tb at_
    generalize ratV (j + 1) = v1 at H3 tb at_
    obtain ⟨t1, t2, t3, t4, t5, t6, t7⟩ := tb
    have AT := Lib.hid at_
    have E13 := Lib.hid e13
    clear at_ e13
    by_cases hc : f1 * 100 < alt
    · have hj2 : j + 1 < 13 := by have := E13.out; omega
      clear H0 H2 H3
      go_wp2_with fail
      go_round
      case rel => exact ⟨j + 1, hj2, by go_num, by rw [HF1.out]; omega⟩
      case measure => simp [intOf]; omega
    · have ev := AT.out hlo (by omega)
      unfold btw at ev
      obtain ⟨y, hy⟩ : ∃ y, (v1 - v0) * (alt - f0 * 100) / ((f1 - f0) * 100) = y := ⟨_, rfl⟩
      rw [hy] at ev
      have bd := rat_bd alt (by omega) (by omega)
      rw [ev] at bd
      have EV := Lib.hid ev
      obtain ⟨m, hm⟩ : ∃ m, (v1 - v0) * (alt - f0 * 100) = m := ⟨_, rfl⟩
      have e100 : (f1 - f0) * 100 = f1 * 100 - f0 * 100 := by omega
      rw [e100] at hy
      have cf := floor_part (v1 - v0) (alt - f0 * 100) (f1 * 100 - f0 * 100) (by omega) (by omega) (by omega) (by omega) (by omega) (by omega) (by omega) m y hm hy
      have hbm : -9000000 * 900000000000 ≤ m ∧ m ≤ 9000000 * 900000000000 := by
        rw [← hm]
        constructor
        · exact Int.le_trans (show (-9000000 * 900000000000 : Int) ≤ -9000000 * (alt - f0 * 100) by omega) (Int.mul_le_mul_of_nonneg_right (by omega) (by omega))
        · exact Int.le_trans (Int.mul_le_mul_of_nonneg_right (show v1 - v0 ≤ 9000000 by omega) (by omega)) (by omega)
      have hw0 : IntKind.i64.wrap (j : Int) = (j : Int) := IntWalk.i64_in _ (by omega)
      have hw1 : IntKind.i64.wrap ((j : Int) + 1) = (j : Int) + 1 := IntWalk.i64_in _ (by omega)
      have hw2 : ((j : Int) + 1).toNat = j + 1 := by omega
      have hw3 : (0 : Int) ≤ (j : Int) := by omega
      have hw4 : (j : Int) < 14 := by omega
      have hw5 : (0 : Int) ≤ (j : Int) + 1 := by omega
      have hw6 : (j : Int) + 1 < 14 := by omega
      have hm1 : IntKind.i64.wrap (f0 * 100) = f0 * 100 := IntWalk.i64_in _ (by omega)
      have hm2 : IntKind.i64.wrap (f1 * 100) = f1 * 100 := IntWalk.i64_in _ (by omega)
      have hm3 : IntKind.i64.wrap (v1 - v0) = v1 - v0 := IntWalk.i64_in _ (by omega)
      have hm4 : IntKind.i64.wrap (alt - f0 * 100) = alt - f0 * 100 := IntWalk.i64_in _ (by omega)
      have hm5 : IntKind.i64.wrap ((v1 - v0) * (alt - f0 * 100)) = m := by rw [hm]; exact IntWalk.i64_in _ (by omega)
      have hm6 : IntKind.i64.wrap (f1 * 100 - f0 * 100) = f1 * 100 - f0 * 100 := IntWalk.i64_in _ (by omega)
      clear ev hy hm e100
      go_wp2_with fail
      go_quiet (fail)
      go_wp2_with fail
      go_quiet ((go_at_call 67; first | exact quiet_eq (cf _) | exact quiet_eq_add (cf _)))
      go_wp2_with fail
      go_ret
      exact ⟨by rw [EV.out]; rfl, by first | exact (hk.drewN _).drewN _ | exact hk.drewN _⟩
set_option maxHeartbeats 4000000 in
set_option maxRecDepth 100000 in
theorem value3_w (alt : Int) (h0 : -200000 ≤ alt) (h1 : alt ≤ 6000000) (w : World) : Calls Tryd.prog 54 #[.int .i64 3, .int .i64 alt] w fun en w' => en = .returned (.int .i64 (tmp alt)) ∧ Kept w w' := by
  go_enter Tryd.func54, Tryd.ntmps54
  go_wp2_with fail
  refine (rows3_w w).mono ?_
  rintro e w1 ⟨g, h, rfl, hk, hF, hV⟩
  have HF := Lib.hid hF
  have HV := Lib.hid hV
  clear hF hV
  go_wp2_with fail
  go_loop [7] (fun t => ∃ j : Nat, j < 3 ∧ t = .int .i64 (j : Int) ∧ tmpF j * 100 ≤ alt) (fun t => 20 - (intOf t).toNat)
  case atStart => exact ⟨0, by omega, rfl, by simp [tmpF]; omega⟩
  case round =>
    obtain ⟨j, hj, rfl, hlo⟩ := hrel
    have H0 := HF.out j (by omega)
    have H1 := HF.out (j + 1) (by omega)
    have H2 := HV.out j (by omega)
    have H3 := HV.out (j + 1) (by omega)
    have tb := tmp_tab j (by omega)
    have at_ := tmp_at j alt (by omega)
    have e13 : j + 1 = 3 → alt ≤ tmpF (j + 1) * 100 := fun e => by rw [e]; simp [tmpF]; omega
    generalize hf1 : tmpF (j + 1) = f1 at H1 tb at_ e13
    have HF1 := Lib.hid hf1
    clear hf1
    generalize tmpF j = f0 at H0 tb at_ hlo
    generalize tmpV j = v0 at H2 tb at_
    generalize tmpV (j + 1) = v1 at H3 tb at_
    obtain ⟨t1, t2, t3, t4, t5, t6, t7⟩ := tb
    have AT := Lib.hid at_
    have E13 := Lib.hid e13
    clear at_ e13
    by_cases hc : f1 * 100 < alt
    · have hj2 : j + 1 < 3 := by have := E13.out; omega
      clear H0 H2 H3
      go_wp2_with fail
      go_round
      case rel => exact ⟨j + 1, hj2, by go_num, by rw [HF1.out]; omega⟩
      case measure => simp [intOf]; omega
    · have ev := AT.out hlo (by omega)
      unfold btw at ev
      obtain ⟨y, hy⟩ : ∃ y, (v1 - v0) * (alt - f0 * 100) / ((f1 - f0) * 100) = y := ⟨_, rfl⟩
      rw [hy] at ev
      have bd := tmp_bd alt (by omega) (by omega)
      rw [ev] at bd
      have EV := Lib.hid ev
      obtain ⟨m, hm⟩ : ∃ m, (v1 - v0) * (alt - f0 * 100) = m := ⟨_, rfl⟩
      have e100 : (f1 - f0) * 100 = f1 * 100 - f0 * 100 := by omega
      rw [e100] at hy
      have cf := floor_part (v1 - v0) (alt - f0 * 100) (f1 * 100 - f0 * 100) (by omega) (by omega) (by omega) (by omega) (by omega) (by omega) (by omega) m y hm hy
      have hbm : -9000000 * 900000000000 ≤ m ∧ m ≤ 9000000 * 900000000000 := by
        rw [← hm]
        constructor
        · exact Int.le_trans (show (-9000000 * 900000000000 : Int) ≤ -9000000 * (alt - f0 * 100) by omega) (Int.mul_le_mul_of_nonneg_right (by omega) (by omega))
        · exact Int.le_trans (Int.mul_le_mul_of_nonneg_right (show v1 - v0 ≤ 9000000 by omega) (by omega)) (by omega)
      have hw0 : IntKind.i64.wrap (j : Int) = (j : Int) := IntWalk.i64_in _ (by omega)
      have hw1 : IntKind.i64.wrap ((j : Int) + 1) = (j : Int) + 1 := IntWalk.i64_in _ (by omega)
      have hw2 : ((j : Int) + 1).toNat = j + 1 := by omega
      have hw3 : (0 : Int) ≤ (j : Int) := by omega
      have hw4 : (j : Int) < 4 := by omega
      have hw5 : (0 : Int) ≤ (j : Int) + 1 := by omega
      have hw6 : (j : Int) + 1 < 4 := by omega
      have hm1 : IntKind.i64.wrap (f0 * 100) = f0 * 100 := IntWalk.i64_in _ (by omega)
      have hm2 : IntKind.i64.wrap (f1 * 100) = f1 * 100 := IntWalk.i64_in _ (by omega)
      have hm3 : IntKind.i64.wrap (v1 - v0) = v1 - v0 := IntWalk.i64_in _ (by omega)
      have hm4 : IntKind.i64.wrap (alt - f0 * 100) = alt - f0 * 100 := IntWalk.i64_in _ (by omega)
      have hm5 : IntKind.i64.wrap ((v1 - v0) * (alt - f0 * 100)) = m := by rw [hm]; exact IntWalk.i64_in _ (by omega)
      have hm6 : IntKind.i64.wrap (f1 * 100 - f0 * 100) = f1 * 100 - f0 * 100 := IntWalk.i64_in _ (by omega)
      clear ev hy hm e100
      go_wp2_with fail
      go_quiet (fail)
      go_wp2_with fail
      go_quiet ((go_at_call 67; first | exact quiet_eq (cf _) | exact quiet_eq_add (cf _)))
      go_wp2_with fail
      go_ret
      exact ⟨by rw [EV.out]; rfl, by first | exact (hk.drewN _).drewN _ | exact hk.drewN _⟩
theorem ready_ok (alt dev : Int) (h0 : -200000 ≤ alt) (h1 : alt ≤ 6000000) (d0 : -4000 ≤ dev) (d1 : dev ≤ 4000) (w : World) : Calls Tryd.prog 53 #[.int .i64 alt, .int .i64 dev] w fun en w' => en = .returned (.int .i64 0) ∧ w = w' := by
  go_enter Tryd.func53, Tryd.ntmps53
  go_wp2
  all_goals (go_ret; exact ⟨rfl, rfl⟩)
theorem ready_alt (alt dev : Int) (h : alt < -200000 ∨ 6000000 < alt) (w : World) : Calls Tryd.prog 53 #[.int .i64 alt, .int .i64 dev] w fun en w' => en = .returned (.int .i64 2) ∧ w = w' := by
  rcases h with h | h
  all_goals
    go_enter Tryd.func53, Tryd.ntmps53
    go_wp2
    all_goals (first | (exfalso; omega) | (go_ret; exact ⟨rfl, rfl⟩))
theorem ready_dev (alt dev : Int) (h0 : -200000 ≤ alt) (h1 : alt ≤ 6000000) (h : dev < -4000 ∨ 4000 < dev) (w : World) : Calls Tryd.prog 53 #[.int .i64 alt, .int .i64 dev] w fun en w' => en = .returned (.int .i64 1) ∧ w = w' := by
  rcases h with h | h
  all_goals
    go_enter Tryd.func53, Tryd.ntmps53
    go_wp2
    all_goals (first | (exfalso; omega) | (go_ret; exact ⟨rfl, rfl⟩))
theorem ref_temperature_alt (alt dev : Int) (h : alt < -200000 ∨ 6000000 < alt) (w : World) : Calls Tryd.prog 57 #[.int .i64 alt, .int .i64 dev] w fun en w' => en = .returned (.tuple #[.int .i64 0, .int .i64 2]) ∧ w = w' := by
  go_enter Tryd.func57, Tryd.ntmps57
  go_wp2_with (first | (go_at_call 53; refine (ready_alt alt dev h _).mono ?_; rintro e w' ⟨rfl, rfl⟩))
  all_goals (go_ret2; exact ⟨rfl, rfl⟩)
theorem ref_temperature_dev (alt dev : Int) (h0 : -200000 ≤ alt) (h1 : alt ≤ 6000000) (h : dev < -4000 ∨ 4000 < dev) (w : World) : Calls Tryd.prog 57 #[.int .i64 alt, .int .i64 dev] w fun en w' => en = .returned (.tuple #[.int .i64 0, .int .i64 1]) ∧ w = w' := by
  go_enter Tryd.func57, Tryd.ntmps57
  go_wp2_with (first | (go_at_call 53; refine (ready_dev alt dev h0 h1 h _).mono ?_; rintro e w' ⟨rfl, rfl⟩))
  all_goals (go_ret2; exact ⟨rfl, rfl⟩)
theorem ref_temperature_ok (alt dev : Int) (h0 : -200000 ≤ alt) (h1 : alt ≤ 6000000) (d0 : -4000 ≤ dev) (d1 : dev ≤ 4000) (w : World) : Calls Tryd.prog 57 #[.int .i64 alt, .int .i64 dev] w fun en w' => en = .returned (.tuple #[.int .i64 (tmp alt + dev), .int .i64 0]) ∧ Kept w w' := by
  have cv := value3_w alt h0 h1 w
  have bd := tmp_bd alt h0 h1
  generalize tmp alt = B at cv bd

  go_enter Tryd.func57, Tryd.ntmps57
  go_wp2_with fail
  refine (ready_ok alt dev h0 h1 d0 d1 _).mono ?_
  rintro e w' ⟨rfl, rfl⟩
  go_wp2_with fail
  refine cv.mono ?_
  rintro e w1 ⟨rfl, hk⟩
  go_wp2_with fail
  go_ret2
  exact ⟨rfl, hk⟩
theorem ref_ratio_alt (alt dev : Int) (h : alt < -200000 ∨ 6000000 < alt) (w : World) : Calls Tryd.prog 32 #[.int .i64 alt, .int .i64 dev] w fun en w' => en = .returned (.tuple #[.int .i64 0, .int .i64 2]) ∧ w = w' := by
  go_enter Tryd.func32, Tryd.ntmps32
  go_wp2_with (first | (go_at_call 53; refine (ready_alt alt dev h _).mono ?_; rintro e w' ⟨rfl, rfl⟩))
  all_goals (go_ret2; exact ⟨rfl, rfl⟩)
theorem ref_ratio_dev (alt dev : Int) (h0 : -200000 ≤ alt) (h1 : alt ≤ 6000000) (h : dev < -4000 ∨ 4000 < dev) (w : World) : Calls Tryd.prog 32 #[.int .i64 alt, .int .i64 dev] w fun en w' => en = .returned (.tuple #[.int .i64 0, .int .i64 1]) ∧ w = w' := by
  go_enter Tryd.func32, Tryd.ntmps32
  go_wp2_with (first | (go_at_call 53; refine (ready_dev alt dev h0 h1 h _).mono ?_; rintro e w' ⟨rfl, rfl⟩))
  all_goals (go_ret2; exact ⟨rfl, rfl⟩)
theorem ref_ratio_ok (alt dev : Int) (h0 : -200000 ≤ alt) (h1 : alt ≤ 6000000) (d0 : -4000 ≤ dev) (d1 : dev ≤ 4000) (w : World) : Calls Tryd.prog 32 #[.int .i64 alt, .int .i64 dev] w fun en w' => en = .returned (.tuple #[.int .i64 (ratD alt dev), .int .i64 0]) ∧ Kept w w' := by
  have cv := value2_w alt h0 h1 w
  have bd := rat_bd alt h0 h1
  have hp := prod_bd (rat alt) (57630 + dev) (by omega) (by omega) (by omega) (by omega)
  have E : Hid (ratD alt dev = rat alt * (57630 + dev) / 57630) := Lib.hid rfl
  generalize rat alt = B at cv bd hp E
  obtain ⟨m, hm⟩ : ∃ m, B * (57630 + dev) = m := ⟨_, rfl⟩
  have hw : IntKind.i64.wrap (B * (57630 + dev)) = m := by rw [hm]; exact IntWalk.i64_in _ (by omega)
  rw [hm] at hp E
  clear hm

  go_enter Tryd.func32, Tryd.ntmps32
  go_wp2_with fail
  refine (ready_ok alt dev h0 h1 d0 d1 _).mono ?_
  rintro e w' ⟨rfl, rfl⟩
  go_wp2_with fail
  refine cv.mono ?_
  rintro e w1 ⟨rfl, hk⟩
  go_wp2_with fail
  go_ret2
  exact ⟨by rw [E.out]; rfl, hk⟩
theorem ref_sound_alt (alt dev : Int) (h : alt < -200000 ∨ 6000000 < alt) (w : World) : Calls Tryd.prog 35 #[.int .i64 alt, .int .i64 dev] w fun en w' => en = .returned (.tuple #[.int .i64 0, .int .i64 2]) ∧ w = w' := by
  go_enter Tryd.func35, Tryd.ntmps35
  go_wp2_with (first | (go_at_call 57; refine (ref_temperature_alt alt dev h _).mono ?_; rintro e w' ⟨rfl, rfl⟩))
  all_goals (go_ret2; exact ⟨rfl, rfl⟩)
theorem ref_sound_dev (alt dev : Int) (h0 : -200000 ≤ alt) (h1 : alt ≤ 6000000) (h : dev < -4000 ∨ 4000 < dev) (w : World) : Calls Tryd.prog 35 #[.int .i64 alt, .int .i64 dev] w fun en w' => en = .returned (.tuple #[.int .i64 0, .int .i64 1]) ∧ w = w' := by
  go_enter Tryd.func35, Tryd.ntmps35
  go_wp2_with (first | (go_at_call 57; refine (ref_temperature_dev alt dev h0 h1 h _).mono ?_; rintro e w' ⟨rfl, rfl⟩))
  all_goals (go_ret2; exact ⟨rfl, rfl⟩)
theorem ref_sound_ok (alt dev : Int) (h0 : -200000 ≤ alt) (h1 : alt ≤ 6000000) (d0 : -4000 ≤ dev) (d1 : dev ≤ 4000) (w : World) : Calls Tryd.prog 35 #[.int .i64 alt, .int .i64 dev] w fun en w' => en = .returned (.tuple #[.int .i64 (snd alt dev), .int .i64 0]) ∧ Kept w w' := by
  have hb := tmp_bd alt h0 h1
  have ct := ref_temperature_ok alt dev h0 h1 d0 d1 w
  have E : Hid (snd alt dev = isq (388734 * (tmp alt + dev) / 100)) := Lib.hid rfl
  generalize tmp alt = T at ct E hb
  go_enter Tryd.func35, Tryd.ntmps35
  go_wp2_with fail
  refine ct.mono ?_
  rintro e w1 ⟨rfl, hk⟩
  go_wp2_with fail
  refine (ref_sqrt_w (388734 * (T + dev) / 100) (by omega) (by omega) _).mono ?_
  rintro e w' ⟨rfl, rfl⟩
  go_wp2_with fail
  go_ret2
  exact ⟨by rw [E.out]; rfl, hk⟩
end Go.Proofs.YtfkgghjinkmpiaaDoor
