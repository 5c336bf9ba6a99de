/-
  Own contracts: package trig and the document's answers: the searches of the inverse functions.
-/
import Derived.Test.YtfpgdicacjkfoaaGreatDoorTrgb
import Derived.WalkKit
import Derived.ProofKit
import Derived.OpenShut
import Derived.WalkLawsBesides
import Derived.WalkSpells
import Derived.Lib.Hide
import Derived.Deep.DeepCutAuto
import Derived.Deep.CutBlock
import Derived.Deep.QuietTactic
import Derived.BigQuiet
import Derived.Handy
import Derived.StillTailTactics
import Derived.IntWalk
import Derived.LoopN
import Derived.Deep.RegionHeld3
namespace Go.Proofs.YtfpgdicacjkfoaaGreatDoor
open Go.ChangeShapes Go.WideShapes Go.ChangeAt Go.RowKit
set_option linter.unusedVariables false
set_option linter.unusedSimpArgs false
theorem les_mul (c m : Int) (c0 : 0 ≤ c) (c1 : c ≤ 1073741824) (m0 : 0 ≤ m) (m1 : m ≤ 2147483647) : 0 ≤ c * m ∧ c * m ≤ 2305843008139952128 ∧ IntKind.i64.wrap (c * m) = c * m := by
  obtain ⟨a, b⟩ := mul_bd c m 1073741824 2147483647 c0 c1 m0 m1
  exact ⟨a, b, IntWalk.i64_in _ (by omega)⟩
set_option maxHeartbeats 2000000 in
set_option maxRecDepth 100000 in
theorem les_cl (c m n : Int) (bm bn : Nat) (c0 : 0 ≤ c) (c1 : c ≤ 16200000) (m0 : 0 ≤ m) (m1 : m ≤ 2147483647) (n0 : 0 ≤ n) (n1 : n ≤ 2147483647) (w : World) (hbm : bm < w.heap.size) (hbn : bn < w.heap.size) (hm : w.cell? ⟨bm, 0, none⟩ = some (.int .i64 m)) (hn : w.cell? ⟨bn, 0, none⟩ = some (.int .i64 n)) : Calls Tryz.prog 80 #[.int .i64 c, .pointer (some ⟨bm, 0, none⟩), .pointer (some ⟨bn, 0, none⟩)] w fun e w' => e = .returned (.bool (lesP m n c)) ∧ Kept w w' := by
  obtain ⟨s0, s1⟩ := ssn_bd c c0 c1
  obtain ⟨k0, k1⟩ := qsn_bd (32400000 - c) (by omega) (by omega)
  obtain ⟨p0, p1, p2⟩ := les_mul (ssn c) m s0 s1 m0 m1
  obtain ⟨q0, q1, q2⟩ := les_mul (qsn (32400000 - c)) n k0 k1 n0 n1
  have x2 : IntKind.i64.wrap (32400000 - c) = 32400000 - c := IntWalk.i64_in _ (by omega)
  have HV : Hid (lesP m n c = decide (ssn c * m ≤ qsn (32400000 - c) * n)) := Lib.hid rfl
  rw [HV.out]
  go_enter Tryz.func80, Tryz.ntmps80
  go_wp2_with fail
  go_region_held3 (fun W => W.cell? ⟨bm, 0, none⟩ = some (.int .i64 m) ∧ W.cell? ⟨bn, 0, none⟩ = some (.int .i64 n)) (first | (go_keep; done) | (simp (maxDischargeDepth := 9) [*, World.cell?_alloc_some, World.cell?_setCell_far]; done)) (first | (go_at_call 70; (first | with_reducible refine (sineSeries_w _ (by omega) (by omega) _).mono ?_); rintro e w' ⟨rfl, hk⟩; have hz := hk.size; (try (refine kuse (b := bm) hk (by first | (simp; done) | (simp; omega) | omega) ?_; intro hq0 hg0; have hy0 : bm < w'.heap.size := (by (try simp at hz); omega); have hn0 : ¬ bm = w'.heap.size := (by omega); have hm0 : ¬ bm = w'.heap.size + 1 := (by omega); refine withF (p := w'.cell? ⟨bm, 0, none⟩ = some (.int .i64 m)) (by first | (rw [hq0]; with_reducible assumption) | (simp (maxDischargeDepth := 7) [go_sem, hq0]; done) | (simp (maxDischargeDepth := 7) [go_sem, hq0, *]; done) | fail) ?_; intro ff00)); (try (refine kuse (b := bn) hk (by first | (simp; done) | (simp; omega) | omega) ?_; intro hq1 hg1; have hy1 : bn < w'.heap.size := (by (try simp at hz); omega); have hn1 : ¬ bn = w'.heap.size := (by omega); have hm1 : ¬ bn = w'.heap.size + 1 := (by omega); refine withF (p := w'.cell? ⟨bn, 0, none⟩ = some (.int .i64 n)) (by first | (rw [hq1]; with_reducible assumption) | (simp (maxDischargeDepth := 7) [go_sem, hq1]; done) | (simp (maxDischargeDepth := 7) [go_sem, hq1, *]; done) | fail) ?_; intro ff10))) | (go_at_call 53; (first | with_reducible refine (quarterSine_w _ (by omega) (by omega) _).mono ?_); rintro e w' ⟨rfl, hk⟩; have hz := hk.size; (try (refine kuse (b := bm) hk (by first | (simp; done) | (simp; omega) | omega) ?_; intro hq0 hg0; have hy0 : bm < w'.heap.size := (by (try simp at hz); omega); have hn0 : ¬ bm = w'.heap.size := (by omega); have hm0 : ¬ bm = w'.heap.size + 1 := (by omega); refine withF (p := w'.cell? ⟨bm, 0, none⟩ = some (.int .i64 m)) (by first | (rw [hq0]; with_reducible assumption) | (simp (maxDischargeDepth := 7) [go_sem, hq0]; done) | (simp (maxDischargeDepth := 7) [go_sem, hq0, *]; done) | fail) ?_; intro ff00)); (try (refine kuse (b := bn) hk (by first | (simp; done) | (simp; omega) | omega) ?_; intro hq1 hg1; have hy1 : bn < w'.heap.size := (by (try simp at hz); omega); have hn1 : ¬ bn = w'.heap.size := (by omega); have hm1 : ¬ bn = w'.heap.size + 1 := (by omega); refine withF (p := w'.cell? ⟨bn, 0, none⟩ = some (.int .i64 n)) (by first | (rw [hq1]; with_reducible assumption) | (simp (maxDischargeDepth := 7) [go_sem, hq1]; done) | (simp (maxDischargeDepth := 7) [go_sem, hq1, *]; done) | fail) ?_; intro ff10))))
  all_goals go_wp2_with fail
  all_goals go_ret
  all_goals exact ⟨rfl, (by repeat (first | with_reducible exact Kept.refl _ | with_reducible assumption | with_reducible refine Kept.setCell ?_ (by first | (simp; done) | (simp; omega) | omega) _ | with_reducible refine Kept.alloc ?_ _ | with_reducible refine Kept.drewN ?_ _ | with_reducible refine Kept.drew ?_ | with_reducible refine Kept.trans ?_ (by with_reducible assumption) | with_reducible refine Kept.dr ?_ (by with_reducible assumption)))⟩
set_option maxHeartbeats 2000000 in
set_option maxRecDepth 100000 in
theorem greatest_l (m n V : Int) (bm bn : Nat) (m0 : 0 ≤ m) (m1 : m ≤ 2147483647) (n0 : 0 ≤ n) (n1 : n ≤ 2147483647) (hV : Hid (grt (lesP m n) 0 16200000 = V)) (w : World) (hbm : bm < w.heap.size) (hbn : bn < w.heap.size) (hm : w.cell? ⟨bm, 0, none⟩ = some (.int .i64 m)) (hn : w.cell? ⟨bn, 0, none⟩ = some (.int .i64 n)) : Calls Tryz.prog 79 #[.int .i64 16200000, .func (.func 80) #[] #[.pointer (some ⟨bm, 0, none⟩), .pointer (some ⟨bn, 0, none⟩)]] w fun e w' => e = .returned (.int .i64 V) ∧ Kept w w' := by
  have HM := Lib.hid hm
  have HN := Lib.hid hn
  clear hm hn
  have HV0 : Hid (grt (lesP m n) 0 16200000 = V) := hV
  go_enter Tryz.func79, Tryz.ntmps79
  go_wp2_with fail
  go_loopw [0, 5, 6] (fun b a c wr => Kept w wr ∧ ∃ lo hi : Int, 0 ≤ lo ∧ lo ≤ hi ∧ hi ≤ 16200000 ∧ a = .int .i64 lo ∧ b = .int .i64 hi ∧ grt (lesP m n) lo hi = V) (fun b a c _ => (intOf b - intOf a).toNat)
  case atStart => exact ⟨Kept.refl _, 0, 16200000, by omega, by omega, by omega, rfl, rfl, HV0.out⟩
  case round =>
    obtain ⟨hk, lo, hi, l0, l1, l2, rfl, rfl, hv⟩ := hrel
    have HK := Lib.hid hk
    have HV := Lib.hid hv
    clear hk hv
    by_cases hlt : lo < hi
    · have w1 : IntKind.i64.wrap (lo + hi) = lo + hi := IntWalk.i64_in _ (by omega)
      cases hc : lesP m n ((lo + hi + 1) / 2)
      · have ec : lesP m n ((lo + hi + 1) / 2) = false := hc
        have E := Lib.hid ((grt_no (lesP m n) lo hi hlt ec).symm.trans HV.out)
        clear ec
        go_wp2_with fail
        refine (les_cl ((lo + hi + 1) / 2) m n bm bn (by omega) (by omega) m0 m1 n0 n1 _ (Nat.lt_of_lt_of_le hbm HK.out.size) (Nat.lt_of_lt_of_le hbn HK.out.size) ((HK.out.cell (p := ⟨bm, 0, none⟩) hbm).trans HM.out) ((HK.out.cell (p := ⟨bn, 0, none⟩) hbn).trans HN.out)).mono ?_
        rw [hc]
        rintro e w1 ⟨rfl, hk1⟩
        have HK1 := Lib.hid (HK.out.trans hk1)
        clear hk1
        clear hc
        go_wp2_with fail
        exact ⟨⟨HK1.out, lo, (lo + hi + 1) / 2 - 1, by omega, by omega, by omega, rfl, rfl, E.out⟩, by simp [intOf]; omega⟩
      · have ec : lesP m n ((lo + hi + 1) / 2) = true := hc
        have E := Lib.hid ((grt_yes (lesP m n) lo hi hlt ec).symm.trans HV.out)
        clear ec
        go_wp2_with fail
        refine (les_cl ((lo + hi + 1) / 2) m n bm bn (by omega) (by omega) m0 m1 n0 n1 _ (Nat.lt_of_lt_of_le hbm HK.out.size) (Nat.lt_of_lt_of_le hbn HK.out.size) ((HK.out.cell (p := ⟨bm, 0, none⟩) hbm).trans HM.out) ((HK.out.cell (p := ⟨bn, 0, none⟩) hbn).trans HN.out)).mono ?_
        rw [hc]
        rintro e w1 ⟨rfl, hk1⟩
        have HK1 := Lib.hid (HK.out.trans hk1)
        clear hk1
        clear hc
        go_wp2_with fail
        exact ⟨⟨HK1.out, (lo + hi + 1) / 2, hi, by omega, by omega, by omega, rfl, rfl, E.out⟩, by simp [intOf]; omega⟩
    · have e := grt_end (lesP m n) lo hi hlt
      have E : Hid (lo = V) := Lib.hid (e.symm.trans HV.out)
      clear e
      go_wp2_with fail
      go_ret
      rw [E.out]
      exact ⟨rfl, HK.out⟩
set_option maxHeartbeats 2000000 in
set_option maxRecDepth 100000 in
theorem lesser_w (m n : Int) (m0 : 0 ≤ m) (m1 : m ≤ 2147483647) (n0 : 0 ≤ n) (n1 : n ≤ 2147483647) (w : World) : Calls Tryz.prog 60 #[.int .i64 m, .int .i64 n] w fun e w' => e = .returned (.int .i64 (les m n)) ∧ Kept w w' := by
  obtain ⟨V, hV⟩ : ∃ V, les m n = V := ⟨_, rfl⟩
  have HV := Lib.hid hV
  have H2 : Hid (grt (lesP m n) 0 16200000 = V) := Lib.hid hV
  clear hV
  rw [HV.out]
  go_enter Tryz.func60, Tryz.ntmps60
  go_wp2_with fail
  refine (greatest_l m n V w.heap.size (w.heap.size + 1) m0 m1 n0 n1 H2 _ (by simp; omega) (by simp) (by simp [go_sem]) (by simp [go_sem])).mono ?_
  rintro e w1 ⟨rfl, hk⟩
  go_wp2_with fail
  go_ret
  exact ⟨rfl, ((Kept.refl w).alloc _).alloc _ |>.trans hk⟩

end Go.Proofs.YtfpgdicacjkfoaaGreatDoor
