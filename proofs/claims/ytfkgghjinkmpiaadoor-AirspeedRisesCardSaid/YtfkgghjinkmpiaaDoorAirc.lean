/-
  Own contracts: layer 30: the least airspeeds and altitudes.
-/
import Derived.Test.YtfkgghjinkmpiaaDoorAira
import Derived.Test.YtfkgghjinkmpiaaDoorRow
import Derived.WalkKit
import Derived.ProofKit
import Derived.OpenShut
import Derived.WalkLawsBesides
import Derived.WalkSpells
import Derived.Lib.Hide
import Derived.Deep.DeepCutAuto
import Derived.Deep.CutBlock
import Derived.Deep.QuietTactic
import Derived.BigQuiet
import Derived.Handy
import Derived.StillTailTactics
import Derived.IntWalk
import Derived.LoopN
import Derived.Deep.RegionHeld3
namespace Go.Proofs.YtfkgghjinkmpiaaDoor
open Go.ChangeShapes Go.WideShapes Go.ChangeAt Go.RowKit
set_option linter.unusedVariables false
set_option linter.unusedSimpArgs false
set_option maxHeartbeats 1000000 in
set_option maxRecDepth 100000 in
theorem cas_cl (c t a d : Int) (ba bd bt : Nat) (c0 : 0 ≤ c) (c1 : c ≤ 1000) (h : Ok2 a d) (w : World) (ht : Hid (Tab w)) (hba : ba < w.heap.size) (cba : w.cell? ⟨ba, 0, none⟩ = some (.int .i64 a)) (hbd : bd < w.heap.size) (cbd : w.cell? ⟨bd, 0, none⟩ = some (.int .i64 d)) (hbt : bt < w.heap.size) (cbt : w.cell? ⟨bt, 0, none⟩ = some (.int .i64 t)) : Calls Tryd.prog 38 #[.int .i64 c, .pointer (some ⟨ba, 0, none⟩), .pointer (some ⟨bd, 0, none⟩), .pointer (some ⟨bt, 0, none⟩)] w fun e w' => e = .returned (.bool (casP t a d c)) ∧ Kept w w' := by
  have HT := Lib.hid (tas_ok c a d c0 c1 h w ht)
  have HV : Hid (casP t a d c = decide (t ≤ tV c a d)) := Lib.hid rfl
  rw [HV.out]
  clear h c0 c1
  generalize tV c a d = T at *
  go_enter Tryd.func38, Tryd.ntmps38
  go_wp2_with (first | (go_at_call 11; with_reducible refine HT.out.mono ?_; rintro e w1 ⟨rfl, hk⟩; refine kuse (b := bt) hk hbt ?_; intro hq hg))
  all_goals go_ret
  all_goals exact ⟨rfl, (by repeat (first | with_reducible exact Kept.refl _ | with_reducible assumption | with_reducible refine Kept.setCell ?_ (by first | (simp; done) | (simp; omega) | omega) _ | with_reducible refine Kept.alloc ?_ _ | with_reducible refine Kept.drewN ?_ _ | with_reducible refine Kept.drew ?_ | with_reducible refine Kept.trans ?_ (by with_reducible assumption) | with_reducible refine Kept.dr ?_ (by with_reducible assumption)))⟩
set_option maxHeartbeats 1000000 in
set_option maxRecDepth 100000 in
theorem cro_cl (a c m d : Int) (bc bd bm : Nat) (c0 : 0 ≤ c) (c1 : c ≤ 1000) (h : Ok2 a d) (w : World) (ht : Hid (Tab w)) (hbc : bc < w.heap.size) (cbc : w.cell? ⟨bc, 0, none⟩ = some (.int .i64 c)) (hbd : bd < w.heap.size) (cbd : w.cell? ⟨bd, 0, none⟩ = some (.int .i64 d)) (hbm : bm < w.heap.size) (cbm : w.cell? ⟨bm, 0, none⟩ = some (.int .i64 m)) : Calls Tryd.prog 40 #[.int .i64 a, .pointer (some ⟨bc, 0, none⟩), .pointer (some ⟨bd, 0, none⟩), .pointer (some ⟨bm, 0, none⟩)] w fun e w' => e = .returned (.bool (croP c m d a)) ∧ Kept w w' := by
  have HT := Lib.hid (tas_ok c a d c0 c1 h w ht)
  obtain ⟨t0, t1⟩ := tV_bd c0 c1 h
  have HM := Lib.hid (fun W (k : Kept w W) => mach_ok (tV c a d) a d t0 (by omega) h W (Lib.hid (tab_kept ht.out k)))
  have HV : Hid (croP c m d a = decide (m ≤ mV (tV c a d) a d)) := Lib.hid rfl
  rw [HV.out]
  clear h c0 c1 t0 t1
  generalize mV (tV c a d) a d = M at *
  generalize tV c a d = T at *
  go_enter Tryd.func40, Tryd.ntmps40
  go_wp2_with (first | (go_at_call 11; with_reducible refine HT.out.mono ?_; rintro e w1 ⟨rfl, hk⟩; refine kuse (b := bd) hk hbd ?_; intro hq hg; refine kuse (b := bm) hk hbm ?_; intro hq2 hg2; have hy : bm < w1.heap.size := kept_lt hk hbm) | (go_at_call 13; refine (HM.out _ hk).mono ?_; rintro e w2 ⟨rfl, hk2⟩; refine kuse (b := bm) hk2 hy ?_; intro hq3 hg3))
  all_goals go_ret
  all_goals exact ⟨rfl, (by repeat (first | with_reducible exact Kept.refl _ | with_reducible assumption | with_reducible refine Kept.setCell ?_ (by first | (simp; done) | (simp; omega) | omega) _ | with_reducible refine Kept.alloc ?_ _ | with_reducible refine Kept.drewN ?_ _ | with_reducible refine Kept.drew ?_ | with_reducible refine Kept.trans ?_ (by with_reducible assumption) | with_reducible refine Kept.dr ?_ (by with_reducible assumption)))⟩
set_option maxHeartbeats 2000000 in
set_option maxRecDepth 100000 in
theorem least_cas (t a d V : Int) (ba bd bt : Nat) (h : Ok2 a d) (hL : Lst (casP t a d) (0) 1000 V) (w : World) (ht : Hid (Tab w)) (hba : ba < w.heap.size) (cba : w.cell? ⟨ba, 0, none⟩ = some (.int .i64 a)) (hbd : bd < w.heap.size) (cbd : w.cell? ⟨bd, 0, none⟩ = some (.int .i64 d)) (hbt : bt < w.heap.size) (cbt : w.cell? ⟨bt, 0, none⟩ = some (.int .i64 t)) : Calls Tryd.prog 37 #[.int .i64 (0), .int .i64 1000, .func (.func 38) #[] #[.pointer (some ⟨ba, 0, none⟩), .pointer (some ⟨bd, 0, none⟩), .pointer (some ⟨bt, 0, none⟩)]] w fun e w' => e = .returned (.tuple #[.int .i64 (V), .int .i64 (0)]) ∧ Kept w w' := by
  have Hba := Lib.hid cba
  have Hbd := Lib.hid cbd
  have Hbt := Lib.hid cbt
  clear cba cbd cbt
  have HL := Lib.hid hL
  have l0 := hL.l
  have l1 := hL.h
  have ht1 := hL.yes 1000 hL.h (Int.le_refl _)
  clear hL
  go_enter Tryd.func37, Tryd.ntmps37
  go_wp2_with fail
  refine (cas_cl 1000 t a d ba bd bt (by omega) (by omega) h _ ht (kept_lt (Kept.refl w) hba) (((Kept.refl w).cell (p := ⟨ba, 0, none⟩) hba).trans Hba.out) (kept_lt (Kept.refl w) hbd) (((Kept.refl w).cell (p := ⟨bd, 0, none⟩) hbd).trans Hbd.out) (kept_lt (Kept.refl w) hbt) (((Kept.refl w).cell (p := ⟨bt, 0, none⟩) hbt).trans Hbt.out)).mono ?_
  rw [ht1]
  rintro e w1 ⟨rfl, hk1⟩
  clear ht1
  go_wp2_with fail
  go_loopw [0, 1, 8] (fun x y z wr => Kept w wr ∧ ∃ lo hi : Int, 0 ≤ lo ∧ lo ≤ V ∧ V ≤ hi ∧ hi ≤ 1000 ∧ x = .int .i64 lo ∧ y = .int .i64 hi) (fun x y z _ => (intOf y - intOf x).toNat)
  case atStart => exact ⟨hk1, 0, 1000, by omega, by omega, by omega, by omega, rfl, rfl⟩
  case round =>
    obtain ⟨hk, lo, hi, g0, g1, g2, g3, rfl, rfl⟩ := hrel
    have HK := Lib.hid hk
    clear hk hk1
    by_cases hlt : lo < hi
    · by_cases cv : V ≤ lo + (hi - lo) / 2
      · have hc : casP t a d (lo + (hi - lo) / 2) = true := HL.out.yes _ cv (by omega)
        have HC := Lib.hid (cas_cl (lo + (hi - lo) / 2) t a d ba bd bt (by omega) (by omega) h)
        clear HL
        go_wp2_with fail
        refine (HC.out _ (Lib.hid (tab_kept ht.out HK.out)) (kept_lt HK.out hba) ((HK.out.cell (p := ⟨ba, 0, none⟩) hba).trans Hba.out) (kept_lt HK.out hbd) ((HK.out.cell (p := ⟨bd, 0, none⟩) hbd).trans Hbd.out) (kept_lt HK.out hbt) ((HK.out.cell (p := ⟨bt, 0, none⟩) hbt).trans Hbt.out)).mono ?_
        rw [hc]
        rintro e w1 ⟨rfl, hk1⟩
        have HK1 := Lib.hid (HK.out.trans hk1)
        clear hk1 hc HC
        go_wp2_with fail
        exact ⟨⟨HK1.out, lo, lo + (hi - lo) / 2, by omega, by omega, by omega, by omega, rfl, rfl⟩, by simp [intOf]; omega⟩
      · have hc : casP t a d (lo + (hi - lo) / 2) = false := HL.out.no _ (by omega) (by omega)
        have HC := Lib.hid (cas_cl (lo + (hi - lo) / 2) t a d ba bd bt (by omega) (by omega) h)
        clear HL
        go_wp2_with fail
        refine (HC.out _ (Lib.hid (tab_kept ht.out HK.out)) (kept_lt HK.out hba) ((HK.out.cell (p := ⟨ba, 0, none⟩) hba).trans Hba.out) (kept_lt HK.out hbd) ((HK.out.cell (p := ⟨bd, 0, none⟩) hbd).trans Hbd.out) (kept_lt HK.out hbt) ((HK.out.cell (p := ⟨bt, 0, none⟩) hbt).trans Hbt.out)).mono ?_
        rw [hc]
        rintro e w1 ⟨rfl, hk1⟩
        have HK1 := Lib.hid (HK.out.trans hk1)
        clear hk1 hc HC
        go_wp2_with fail
        exact ⟨⟨HK1.out, lo + (hi - lo) / 2 + 1, hi, by omega, by omega, by omega, by omega, rfl, rfl⟩, by simp [intOf]; omega⟩
    · obtain rfl : lo = V := by omega
      go_wp2_with fail
      go_ret2
      exact ⟨rfl, HK.out⟩
set_option maxHeartbeats 1000000 in
set_option maxRecDepth 100000 in
theorem least_cas_no (t a d : Int) (ba bd bt : Nat) (h : Ok2 a d) (hno : casP t a d 1000 = false) (w : World) (ht : Hid (Tab w)) (hba : ba < w.heap.size) (cba : w.cell? ⟨ba, 0, none⟩ = some (.int .i64 a)) (hbd : bd < w.heap.size) (cbd : w.cell? ⟨bd, 0, none⟩ = some (.int .i64 d)) (hbt : bt < w.heap.size) (cbt : w.cell? ⟨bt, 0, none⟩ = some (.int .i64 t)) : Calls Tryd.prog 37 #[.int .i64 (0), .int .i64 1000, .func (.func 38) #[] #[.pointer (some ⟨ba, 0, none⟩), .pointer (some ⟨bd, 0, none⟩), .pointer (some ⟨bt, 0, none⟩)]] w fun e w' => e = .returned (.tuple #[.int .i64 (0), .int .i64 (2)]) ∧ Kept w w' := by
  have Hba := Lib.hid cba
  have Hbd := Lib.hid cbd
  have Hbt := Lib.hid cbt
  clear cba cbd cbt
  go_enter Tryd.func37, Tryd.ntmps37
  go_wp2_with fail
  refine (cas_cl 1000 t a d ba bd bt (by omega) (by omega) h _ ht (kept_lt (Kept.refl w) hba) (((Kept.refl w).cell (p := ⟨ba, 0, none⟩) hba).trans Hba.out) (kept_lt (Kept.refl w) hbd) (((Kept.refl w).cell (p := ⟨bd, 0, none⟩) hbd).trans Hbd.out) (kept_lt (Kept.refl w) hbt) (((Kept.refl w).cell (p := ⟨bt, 0, none⟩) hbt).trans Hbt.out)).mono ?_
  rw [hno]
  rintro e w1 ⟨rfl, hk1⟩
  go_wp2_with fail
  go_ret2
  exact ⟨rfl, hk1⟩
set_option maxHeartbeats 2000000 in
set_option maxRecDepth 100000 in
theorem least_cro (c m d V : Int) (bc bd bm : Nat) (c0 : 0 ≤ c) (c1 : c ≤ 1000) (d0 : -4000 ≤ d) (d1 : d ≤ 4000) (hL : Lst (croP c m d) (-200000) 6000000 V) (w : World) (ht : Hid (Tab w)) (hbc : bc < w.heap.size) (cbc : w.cell? ⟨bc, 0, none⟩ = some (.int .i64 c)) (hbd : bd < w.heap.size) (cbd : w.cell? ⟨bd, 0, none⟩ = some (.int .i64 d)) (hbm : bm < w.heap.size) (cbm : w.cell? ⟨bm, 0, none⟩ = some (.int .i64 m)) : Calls Tryd.prog 37 #[.int .i64 (-200000), .int .i64 6000000, .func (.func 40) #[] #[.pointer (some ⟨bc, 0, none⟩), .pointer (some ⟨bd, 0, none⟩), .pointer (some ⟨bm, 0, none⟩)]] w fun e w' => e = .returned (.tuple #[.int .i64 (V), .int .i64 (0)]) ∧ Kept w w' := by
  have Hbc := Lib.hid cbc
  have Hbd := Lib.hid cbd
  have Hbm := Lib.hid cbm
  clear cbc cbd cbm
  have HL := Lib.hid hL
  have l0 := hL.l
  have l1 := hL.h
  have ht1 := hL.yes 6000000 hL.h (Int.le_refl _)
  clear hL
  go_enter Tryd.func37, Tryd.ntmps37
  go_wp2_with fail
  refine (cro_cl 6000000 c m d bc bd bm c0 c1 (⟨by omega, by omega, d0, d1⟩) _ ht (kept_lt (Kept.refl w) hbc) (((Kept.refl w).cell (p := ⟨bc, 0, none⟩) hbc).trans Hbc.out) (kept_lt (Kept.refl w) hbd) (((Kept.refl w).cell (p := ⟨bd, 0, none⟩) hbd).trans Hbd.out) (kept_lt (Kept.refl w) hbm) (((Kept.refl w).cell (p := ⟨bm, 0, none⟩) hbm).trans Hbm.out)).mono ?_
  rw [ht1]
  rintro e w1 ⟨rfl, hk1⟩
  clear ht1
  go_wp2_with fail
  go_loopw [0, 1, 8] (fun x y z wr => Kept w wr ∧ ∃ lo hi : Int, -200000 ≤ lo ∧ lo ≤ V ∧ V ≤ hi ∧ hi ≤ 6000000 ∧ x = .int .i64 lo ∧ y = .int .i64 hi) (fun x y z _ => (intOf y - intOf x).toNat)
  case atStart => exact ⟨hk1, -200000, 6000000, by omega, by omega, by omega, by omega, rfl, rfl⟩
  case round =>
    obtain ⟨hk, lo, hi, g0, g1, g2, g3, rfl, rfl⟩ := hrel
    have HK := Lib.hid hk
    clear hk hk1
    by_cases hlt : lo < hi
    · by_cases cv : V ≤ lo + (hi - lo) / 2
      · have hc : croP c m d (lo + (hi - lo) / 2) = true := HL.out.yes _ cv (by omega)
        have HC := Lib.hid (cro_cl (lo + (hi - lo) / 2) c m d bc bd bm c0 c1 (⟨by omega, by omega, d0, d1⟩))
        clear HL
        go_wp2_with fail
        refine (HC.out _ (Lib.hid (tab_kept ht.out HK.out)) (kept_lt HK.out hbc) ((HK.out.cell (p := ⟨bc, 0, none⟩) hbc).trans Hbc.out) (kept_lt HK.out hbd) ((HK.out.cell (p := ⟨bd, 0, none⟩) hbd).trans Hbd.out) (kept_lt HK.out hbm) ((HK.out.cell (p := ⟨bm, 0, none⟩) hbm).trans Hbm.out)).mono ?_
        rw [hc]
        rintro e w1 ⟨rfl, hk1⟩
        have HK1 := Lib.hid (HK.out.trans hk1)
        clear hk1 hc HC
        go_wp2_with fail
        exact ⟨⟨HK1.out, lo, lo + (hi - lo) / 2, by omega, by omega, by omega, by omega, rfl, rfl⟩, by simp [intOf]; omega⟩
      · have hc : croP c m d (lo + (hi - lo) / 2) = false := HL.out.no _ (by omega) (by omega)
        have HC := Lib.hid (cro_cl (lo + (hi - lo) / 2) c m d bc bd bm c0 c1 (⟨by omega, by omega, d0, d1⟩))
        clear HL
        go_wp2_with fail
        refine (HC.out _ (Lib.hid (tab_kept ht.out HK.out)) (kept_lt HK.out hbc) ((HK.out.cell (p := ⟨bc, 0, none⟩) hbc).trans Hbc.out) (kept_lt HK.out hbd) ((HK.out.cell (p := ⟨bd, 0, none⟩) hbd).trans Hbd.out) (kept_lt HK.out hbm) ((HK.out.cell (p := ⟨bm, 0, none⟩) hbm).trans Hbm.out)).mono ?_
        rw [hc]
        rintro e w1 ⟨rfl, hk1⟩
        have HK1 := Lib.hid (HK.out.trans hk1)
        clear hk1 hc HC
        go_wp2_with fail
        exact ⟨⟨HK1.out, lo + (hi - lo) / 2 + 1, hi, by omega, by omega, by omega, by omega, rfl, rfl⟩, by simp [intOf]; omega⟩
    · obtain rfl : lo = V := by omega
      go_wp2_with fail
      go_ret2
      exact ⟨rfl, HK.out⟩
set_option maxHeartbeats 1000000 in
set_option maxRecDepth 100000 in
theorem least_cro_no (c m d : Int) (bc bd bm : Nat) (c0 : 0 ≤ c) (c1 : c ≤ 1000) (d0 : -4000 ≤ d) (d1 : d ≤ 4000) (hno : croP c m d 6000000 = false) (w : World) (ht : Hid (Tab w)) (hbc : bc < w.heap.size) (cbc : w.cell? ⟨bc, 0, none⟩ = some (.int .i64 c)) (hbd : bd < w.heap.size) (cbd : w.cell? ⟨bd, 0, none⟩ = some (.int .i64 d)) (hbm : bm < w.heap.size) (cbm : w.cell? ⟨bm, 0, none⟩ = some (.int .i64 m)) : Calls Tryd.prog 37 #[.int .i64 (-200000), .int .i64 6000000, .func (.func 40) #[] #[.pointer (some ⟨bc, 0, none⟩), .pointer (some ⟨bd, 0, none⟩), .pointer (some ⟨bm, 0, none⟩)]] w fun e w' => e = .returned (.tuple #[.int .i64 (0), .int .i64 (2)]) ∧ Kept w w' := by
  have Hbc := Lib.hid cbc
  have Hbd := Lib.hid cbd
  have Hbm := Lib.hid cbm
  clear cbc cbd cbm
  go_enter Tryd.func37, Tryd.ntmps37
  go_wp2_with fail
  refine (cro_cl 6000000 c m d bc bd bm c0 c1 (⟨by omega, by omega, d0, d1⟩) _ ht (kept_lt (Kept.refl w) hbc) (((Kept.refl w).cell (p := ⟨bc, 0, none⟩) hbc).trans Hbc.out) (kept_lt (Kept.refl w) hbd) (((Kept.refl w).cell (p := ⟨bd, 0, none⟩) hbd).trans Hbd.out) (kept_lt (Kept.refl w) hbm) (((Kept.refl w).cell (p := ⟨bm, 0, none⟩) hbm).trans Hbm.out)).mono ?_
  rw [hno]
  rintro e w1 ⟨rfl, hk1⟩
  go_wp2_with fail
  go_ret2
  exact ⟨rfl, hk1⟩
set_option maxHeartbeats 1000000 in
set_option maxRecDepth 100000 in
theorem cas_arg (t a d : Int) (h : t < 0 ∨ 4000 < t) (w : World) : Calls Tryd.prog 17 #[.int .i64 t, .int .i64 a, .int .i64 d] w fun e w' => e = .returned (.tuple #[.int .i64 (0), .int .i64 (1)]) ∧ Kept w w' := by
  have HV := Lib.hid (vtas_no t h)
  clear h
  go_enter Tryd.func17, Tryd.ntmps17
  go_wp2_with fail
  with_reducible refine (HV.out _).mono ?_
  rintro e w' ⟨rfl, rfl⟩
  go_wp2_with fail
  all_goals go_ret2
  all_goals exact ⟨rfl, (by repeat (first | with_reducible exact Kept.refl _ | with_reducible assumption | with_reducible refine Kept.setCell ?_ (by first | (simp; done) | (simp; omega) | omega) _ | with_reducible refine Kept.alloc ?_ _ | with_reducible refine Kept.drewN ?_ _ | with_reducible refine Kept.drew ?_ | with_reducible refine Kept.trans ?_ (by with_reducible assumption) | with_reducible refine Kept.dr ?_ (by with_reducible assumption)))⟩
set_option maxHeartbeats 1000000 in
set_option maxRecDepth 100000 in
theorem cas_no (t a d : Int) (h0 : 0 ≤ t) (h1 : t ≤ 4000) (h : rE a d ≠ 0) (w : World) : Calls Tryd.prog 17 #[.int .i64 t, .int .i64 a, .int .i64 d] w fun e w' => e = .returned (.tuple #[.int .i64 (0), .int .i64 (rE a d)]) ∧ Kept w w' := by
  have HV := Lib.hid (vtas_yes t h0 h1)
  have HR := Lib.hid (ratio_no a d h)
  obtain ⟨E, hE⟩ : ∃ E, rE a d = E := ⟨_, rfl⟩
  rw [hE] at HR h
  rw [hE]
  clear hE
  go_enter Tryd.func17, Tryd.ntmps17
  go_wp2_with fail
  with_reducible refine (HV.out _).mono ?_
  rintro e w' ⟨rfl, rfl⟩
  go_wp2_with fail
  with_reducible refine (HR.out _).mono ?_
  rintro e w' ⟨rfl, rfl⟩
  go_wp2_with fail
  all_goals go_ret2
  all_goals exact ⟨rfl, (by repeat (first | with_reducible exact Kept.refl _ | with_reducible assumption | with_reducible refine Kept.setCell ?_ (by first | (simp; done) | (simp; omega) | omega) _ | with_reducible refine Kept.alloc ?_ _ | with_reducible refine Kept.drewN ?_ _ | with_reducible refine Kept.drew ?_ | with_reducible refine Kept.trans ?_ (by with_reducible assumption) | with_reducible refine Kept.dr ?_ (by with_reducible assumption)))⟩
set_option maxHeartbeats 1000000 in
set_option maxRecDepth 100000 in
theorem cas_ok (t a d : Int) (V : Int) (hL : Lst (casP t a d) 0 1000 V) (h0 : 0 ≤ t) (h1 : t ≤ 4000) (h : Ok2 a d) (w : World) (ht : Hid (Tab w)) : Calls Tryd.prog 17 #[.int .i64 t, .int .i64 a, .int .i64 d] w fun e w' => e = .returned (.tuple #[.int .i64 (V), .int .i64 (0)]) ∧ Kept w w' := by
  have HV := Lib.hid (vtas_yes t h0 h1)
  have HR := Lib.hid (fun W (k : Kept w W) => ratio_ok a d h.1 h.2.1 h.2.2.1 h.2.2.2 W (Lib.hid (tab_kept ht.out k)))
  have HL := Lib.hid (fun W (k : Kept w W) => least_cas t a d V (w.heap.size + 1) (w.heap.size + 2) (w.heap.size) h hL W (Lib.hid (tab_kept ht.out k)))
  clear h hL
  generalize ratD a d = S at *
  go_enter Tryd.func17, Tryd.ntmps17
  go_wp2_with fail
  with_reducible refine (HV.out _).mono ?_
  rintro e w' ⟨rfl, rfl⟩
  go_wp2_with fail
  refine (HR.out _ (by repeat (first | with_reducible exact Kept.refl _ | with_reducible assumption | with_reducible refine Kept.setCell ?_ (by first | (simp; done) | (simp; omega) | omega) _ | with_reducible refine Kept.alloc ?_ _ | with_reducible refine Kept.drewN ?_ _ | with_reducible refine Kept.drew ?_ | with_reducible refine Kept.trans ?_ (by with_reducible assumption) | with_reducible refine Kept.dr ?_ (by with_reducible assumption)))).mono ?_
  rintro e w2 ⟨rfl, hk2⟩
  refine kuse (b := w.heap.size) hk2 (by first | (simp; done) | (simp; omega) | omega) ?_
  intro ha hb
  have hz2_0 : w.heap.size < w2.heap.size := by have := hk2.size; (try simp at this); omega
  have hn2_0 : ¬ w.heap.size = w2.heap.size := by omega
  have hm2_0 : ¬ w2.heap.size = w.heap.size := by omega
  have hf2_0_0 : w2.cell? ⟨w.heap.size, 0, none⟩ = some (.int .i64 t) := by first | (rw [ha]; with_reducible assumption) | (simp (maxDischargeDepth := 7) [go_sem, ha]; done) | (rw [ha]; assumption) | (simp (maxDischargeDepth := 7) [go_sem, ha, *]; done)
  try have hg2_0 : ∀ o, w2.frozen? ⟨w.heap.size, o, none⟩ = false := by intro o; first | (simp (maxDischargeDepth := 7) [go_sem, hb]; done) | (rw [hb]; simp (maxDischargeDepth := 7) [go_sem, *]; done)
  clear ha hb
  refine kuse (b := w.heap.size + 1) hk2 (by first | (simp; done) | (simp; omega) | omega) ?_
  intro ha hb
  have hz2_1 : w.heap.size + 1 < w2.heap.size := by have := hk2.size; (try simp at this); omega
  have hn2_1 : ¬ w.heap.size + 1 = w2.heap.size := by omega
  have hm2_1 : ¬ w2.heap.size = w.heap.size + 1 := by omega
  have hf2_1_0 : w2.cell? ⟨w.heap.size + 1, 0, none⟩ = some (.int .i64 a) := by first | (rw [ha]; with_reducible assumption) | (simp (maxDischargeDepth := 7) [go_sem, ha]; done) | (rw [ha]; assumption) | (simp (maxDischargeDepth := 7) [go_sem, ha, *]; done)
  try have hg2_1 : ∀ o, w2.frozen? ⟨w.heap.size + 1, o, none⟩ = false := by intro o; first | (simp (maxDischargeDepth := 7) [go_sem, hb]; done) | (rw [hb]; simp (maxDischargeDepth := 7) [go_sem, *]; done)
  clear ha hb
  refine kuse (b := w.heap.size + 2) hk2 (by first | (simp; done) | (simp; omega) | omega) ?_
  intro ha hb
  have hz2_2 : w.heap.size + 2 < w2.heap.size := by have := hk2.size; (try simp at this); omega
  have hn2_2 : ¬ w.heap.size + 2 = w2.heap.size := by omega
  have hm2_2 : ¬ w2.heap.size = w.heap.size + 2 := by omega
  have hf2_2_0 : w2.cell? ⟨w.heap.size + 2, 0, none⟩ = some (.int .i64 d) := by first | (rw [ha]; with_reducible assumption) | (simp (maxDischargeDepth := 7) [go_sem, ha]; done) | (rw [ha]; assumption) | (simp (maxDischargeDepth := 7) [go_sem, ha, *]; done)
  try have hg2_2 : ∀ o, w2.frozen? ⟨w.heap.size + 2, o, none⟩ = false := by intro o; first | (simp (maxDischargeDepth := 7) [go_sem, hb]; done) | (rw [hb]; simp (maxDischargeDepth := 7) [go_sem, *]; done)
  clear ha hb
  go_wp2_with fail
  refine (HL.out _ (by repeat (first | with_reducible exact Kept.refl _ | with_reducible assumption | with_reducible refine Kept.setCell ?_ (by first | (simp; done) | (simp; omega) | omega) _ | with_reducible refine Kept.alloc ?_ _ | with_reducible refine Kept.drewN ?_ _ | with_reducible refine Kept.drew ?_ | with_reducible refine Kept.trans ?_ (by with_reducible assumption) | with_reducible refine Kept.dr ?_ (by with_reducible assumption))) (by first | with_reducible assumption | (simp; done) | (simp; omega) | omega) (by first | with_reducible assumption | (simp; done) | (simp; omega) | omega) (by first | with_reducible assumption | (simp; done) | (simp; omega) | omega) (by first | with_reducible assumption | (simp; done) | (simp; omega) | omega) (by first | with_reducible assumption | (simp; done) | (simp; omega) | omega) (by first | with_reducible assumption | (simp; done) | (simp; omega) | omega)).mono ?_
  rintro e w3 ⟨rfl, hk3⟩
  refine kuse (b := w.heap.size) hk3 (by first | (simp; done) | (simp; omega) | omega) ?_
  intro ha hb
  have hz3_0 : w.heap.size < w3.heap.size := by have := hk3.size; (try simp at this); omega
  have hn3_0 : ¬ w.heap.size = w3.heap.size := by omega
  have hm3_0 : ¬ w3.heap.size = w.heap.size := by omega
  have hf3_0_0 : w3.cell? ⟨w.heap.size, 0, none⟩ = some (.int .i64 t) := by first | (rw [ha]; with_reducible assumption) | (simp (maxDischargeDepth := 7) [go_sem, ha]; done) | (rw [ha]; assumption) | (simp (maxDischargeDepth := 7) [go_sem, ha, *]; done)
  try have hg3_0 : ∀ o, w3.frozen? ⟨w.heap.size, o, none⟩ = false := by intro o; first | (simp (maxDischargeDepth := 7) [go_sem, hb]; done) | (rw [hb]; simp (maxDischargeDepth := 7) [go_sem, *]; done)
  clear ha hb
  refine kuse (b := w.heap.size + 1) hk3 (by first | (simp; done) | (simp; omega) | omega) ?_
  intro ha hb
  have hz3_1 : w.heap.size + 1 < w3.heap.size := by have := hk3.size; (try simp at this); omega
  have hn3_1 : ¬ w.heap.size + 1 = w3.heap.size := by omega
  have hm3_1 : ¬ w3.heap.size = w.heap.size + 1 := by omega
  have hf3_1_0 : w3.cell? ⟨w.heap.size + 1, 0, none⟩ = some (.int .i64 a) := by first | (rw [ha]; with_reducible assumption) | (simp (maxDischargeDepth := 7) [go_sem, ha]; done) | (rw [ha]; assumption) | (simp (maxDischargeDepth := 7) [go_sem, ha, *]; done)
  try have hg3_1 : ∀ o, w3.frozen? ⟨w.heap.size + 1, o, none⟩ = false := by intro o; first | (simp (maxDischargeDepth := 7) [go_sem, hb]; done) | (rw [hb]; simp (maxDischargeDepth := 7) [go_sem, *]; done)
  clear ha hb
  refine kuse (b := w.heap.size + 2) hk3 (by first | (simp; done) | (simp; omega) | omega) ?_
  intro ha hb
  have hz3_2 : w.heap.size + 2 < w3.heap.size := by have := hk3.size; (try simp at this); omega
  have hn3_2 : ¬ w.heap.size + 2 = w3.heap.size := by omega
  have hm3_2 : ¬ w3.heap.size = w.heap.size + 2 := by omega
  have hf3_2_0 : w3.cell? ⟨w.heap.size + 2, 0, none⟩ = some (.int .i64 d) := by first | (rw [ha]; with_reducible assumption) | (simp (maxDischargeDepth := 7) [go_sem, ha]; done) | (rw [ha]; assumption) | (simp (maxDischargeDepth := 7) [go_sem, ha, *]; done)
  try have hg3_2 : ∀ o, w3.frozen? ⟨w.heap.size + 2, o, none⟩ = false := by intro o; first | (simp (maxDischargeDepth := 7) [go_sem, hb]; done) | (rw [hb]; simp (maxDischargeDepth := 7) [go_sem, *]; done)
  clear ha hb
  try clear hf2_0_0
  try clear hf2_1_0
  try clear hf2_2_0
  try clear hg2_0
  try clear hg2_1
  try clear hg2_2
  try clear hz2_1
  try clear hz2_2
  go_wp2_with fail
  all_goals go_ret2
  all_goals exact ⟨rfl, (by repeat (first | with_reducible exact Kept.refl _ | with_reducible assumption | with_reducible refine Kept.setCell ?_ (by first | (simp; done) | (simp; omega) | omega) _ | with_reducible refine Kept.alloc ?_ _ | with_reducible refine Kept.drewN ?_ _ | with_reducible refine Kept.drew ?_ | with_reducible refine Kept.trans ?_ (by with_reducible assumption) | with_reducible refine Kept.dr ?_ (by with_reducible assumption)))⟩
set_option maxHeartbeats 1000000 in
set_option maxRecDepth 100000 in
theorem cas_rng (t a d : Int) (hno : casP t a d 1000 = false) (h0 : 0 ≤ t) (h1 : t ≤ 4000) (h : Ok2 a d) (w : World) (ht : Hid (Tab w)) : Calls Tryd.prog 17 #[.int .i64 t, .int .i64 a, .int .i64 d] w fun e w' => e = .returned (.tuple #[.int .i64 (0), .int .i64 (2)]) ∧ Kept w w' := by
  have HV := Lib.hid (vtas_yes t h0 h1)
  have HR := Lib.hid (fun W (k : Kept w W) => ratio_ok a d h.1 h.2.1 h.2.2.1 h.2.2.2 W (Lib.hid (tab_kept ht.out k)))
  have HL := Lib.hid (fun W (k : Kept w W) => least_cas_no t a d (w.heap.size + 1) (w.heap.size + 2) (w.heap.size) h hno W (Lib.hid (tab_kept ht.out k)))
  clear h hno
  generalize ratD a d = S at *
  go_enter Tryd.func17, Tryd.ntmps17
  go_wp2_with fail
  with_reducible refine (HV.out _).mono ?_
  rintro e w' ⟨rfl, rfl⟩
  go_wp2_with fail
  refine (HR.out _ (by repeat (first | with_reducible exact Kept.refl _ | with_reducible assumption | with_reducible refine Kept.setCell ?_ (by first | (simp; done) | (simp; omega) | omega) _ | with_reducible refine Kept.alloc ?_ _ | with_reducible refine Kept.drewN ?_ _ | with_reducible refine Kept.drew ?_ | with_reducible refine Kept.trans ?_ (by with_reducible assumption) | with_reducible refine Kept.dr ?_ (by with_reducible assumption)))).mono ?_
  rintro e w2 ⟨rfl, hk2⟩
  refine kuse (b := w.heap.size) hk2 (by first | (simp; done) | (simp; omega) | omega) ?_
  intro ha hb
  have hz2_0 : w.heap.size < w2.heap.size := by have := hk2.size; (try simp at this); omega
  have hn2_0 : ¬ w.heap.size = w2.heap.size := by omega
  have hm2_0 : ¬ w2.heap.size = w.heap.size := by omega
  have hf2_0_0 : w2.cell? ⟨w.heap.size, 0, none⟩ = some (.int .i64 t) := by first | (rw [ha]; with_reducible assumption) | (simp (maxDischargeDepth := 7) [go_sem, ha]; done) | (rw [ha]; assumption) | (simp (maxDischargeDepth := 7) [go_sem, ha, *]; done)
  try have hg2_0 : ∀ o, w2.frozen? ⟨w.heap.size, o, none⟩ = false := by intro o; first | (simp (maxDischargeDepth := 7) [go_sem, hb]; done) | (rw [hb]; simp (maxDischargeDepth := 7) [go_sem, *]; done)
  clear ha hb
  refine kuse (b := w.heap.size + 1) hk2 (by first | (simp; done) | (simp; omega) | omega) ?_
  intro ha hb
  have hz2_1 : w.heap.size + 1 < w2.heap.size := by have := hk2.size; (try simp at this); omega
  have hn2_1 : ¬ w.heap.size + 1 = w2.heap.size := by omega
  have hm2_1 : ¬ w2.heap.size = w.heap.size + 1 := by omega
  have hf2_1_0 : w2.cell? ⟨w.heap.size + 1, 0, none⟩ = some (.int .i64 a) := by first | (rw [ha]; with_reducible assumption) | (simp (maxDischargeDepth := 7) [go_sem, ha]; done) | (rw [ha]; assumption) | (simp (maxDischargeDepth := 7) [go_sem, ha, *]; done)
  try have hg2_1 : ∀ o, w2.frozen? ⟨w.heap.size + 1, o, none⟩ = false := by intro o; first | (simp (maxDischargeDepth := 7) [go_sem, hb]; done) | (rw [hb]; simp (maxDischargeDepth := 7) [go_sem, *]; done)
  clear ha hb
  refine kuse (b := w.heap.size + 2) hk2 (by first | (simp; done) | (simp; omega) | omega) ?_
  intro ha hb
  have hz2_2 : w.heap.size + 2 < w2.heap.size := by have := hk2.size; (try simp at this); omega
  have hn2_2 : ¬ w.heap.size + 2 = w2.heap.size := by omega
  have hm2_2 : ¬ w2.heap.size = w.heap.size + 2 := by omega
  have hf2_2_0 : w2.cell? ⟨w.heap.size + 2, 0, none⟩ = some (.int .i64 d) := by first | (rw [ha]; with_reducible assumption) | (simp (maxDischargeDepth := 7) [go_sem, ha]; done) | (rw [ha]; assumption) | (simp (maxDischargeDepth := 7) [go_sem, ha, *]; done)
  try have hg2_2 : ∀ o, w2.frozen? ⟨w.heap.size + 2, o, none⟩ = false := by intro o; first | (simp (maxDischargeDepth := 7) [go_sem, hb]; done) | (rw [hb]; simp (maxDischargeDepth := 7) [go_sem, *]; done)
  clear ha hb
  go_wp2_with fail
  refine (HL.out _ (by repeat (first | with_reducible exact Kept.refl _ | with_reducible assumption | with_reducible refine Kept.setCell ?_ (by first | (simp; done) | (simp; omega) | omega) _ | with_reducible refine Kept.alloc ?_ _ | with_reducible refine Kept.drewN ?_ _ | with_reducible refine Kept.drew ?_ | with_reducible refine Kept.trans ?_ (by with_reducible assumption) | with_reducible refine Kept.dr ?_ (by with_reducible assumption))) (by first | with_reducible assumption | (simp; done) | (simp; omega) | omega) (by first | with_reducible assumption | (simp; done) | (simp; omega) | omega) (by first | with_reducible assumption | (simp; done) | (simp; omega) | omega) (by first | with_reducible assumption | (simp; done) | (simp; omega) | omega) (by first | with_reducible assumption | (simp; done) | (simp; omega) | omega) (by first | with_reducible assumption | (simp; done) | (simp; omega) | omega)).mono ?_
  rintro e w3 ⟨rfl, hk3⟩
  refine kuse (b := w.heap.size) hk3 (by first | (simp; done) | (simp; omega) | omega) ?_
  intro ha hb
  have hz3_0 : w.heap.size < w3.heap.size := by have := hk3.size; (try simp at this); omega
  have hn3_0 : ¬ w.heap.size = w3.heap.size := by omega
  have hm3_0 : ¬ w3.heap.size = w.heap.size := by omega
  have hf3_0_0 : w3.cell? ⟨w.heap.size, 0, none⟩ = some (.int .i64 t) := by first | (rw [ha]; with_reducible assumption) | (simp (maxDischargeDepth := 7) [go_sem, ha]; done) | (rw [ha]; assumption) | (simp (maxDischargeDepth := 7) [go_sem, ha, *]; done)
  try have hg3_0 : ∀ o, w3.frozen? ⟨w.heap.size, o, none⟩ = false := by intro o; first | (simp (maxDischargeDepth := 7) [go_sem, hb]; done) | (rw [hb]; simp (maxDischargeDepth := 7) [go_sem, *]; done)
  clear ha hb
  refine kuse (b := w.heap.size + 1) hk3 (by first | (simp; done) | (simp; omega) | omega) ?_
  intro ha hb
  have hz3_1 : w.heap.size + 1 < w3.heap.size := by have := hk3.size; (try simp at this); omega
  have hn3_1 : ¬ w.heap.size + 1 = w3.heap.size := by omega
  have hm3_1 : ¬ w3.heap.size = w.heap.size + 1 := by omega
  have hf3_1_0 : w3.cell? ⟨w.heap.size + 1, 0, none⟩ = some (.int .i64 a) := by first | (rw [ha]; with_reducible assumption) | (simp (maxDischargeDepth := 7) [go_sem, ha]; done) | (rw [ha]; assumption) | (simp (maxDischargeDepth := 7) [go_sem, ha, *]; done)
  try have hg3_1 : ∀ o, w3.frozen? ⟨w.heap.size + 1, o, none⟩ = false := by intro o; first | (simp (maxDischargeDepth := 7) [go_sem, hb]; done) | (rw [hb]; simp (maxDischargeDepth := 7) [go_sem, *]; done)
  clear ha hb
  refine kuse (b := w.heap.size + 2) hk3 (by first | (simp; done) | (simp; omega) | omega) ?_
  intro ha hb
  have hz3_2 : w.heap.size + 2 < w3.heap.size := by have := hk3.size; (try simp at this); omega
  have hn3_2 : ¬ w.heap.size + 2 = w3.heap.size := by omega
  have hm3_2 : ¬ w3.heap.size = w.heap.size + 2 := by omega
  have hf3_2_0 : w3.cell? ⟨w.heap.size + 2, 0, none⟩ = some (.int .i64 d) := by first | (rw [ha]; with_reducible assumption) | (simp (maxDischargeDepth := 7) [go_sem, ha]; done) | (rw [ha]; assumption) | (simp (maxDischargeDepth := 7) [go_sem, ha, *]; done)
  try have hg3_2 : ∀ o, w3.frozen? ⟨w.heap.size + 2, o, none⟩ = false := by intro o; first | (simp (maxDischargeDepth := 7) [go_sem, hb]; done) | (rw [hb]; simp (maxDischargeDepth := 7) [go_sem, *]; done)
  clear ha hb
  try clear hf2_0_0
  try clear hf2_1_0
  try clear hf2_2_0
  try clear hg2_0
  try clear hg2_1
  try clear hg2_2
  try clear hz2_1
  try clear hz2_2
  go_wp2_with fail
  all_goals go_ret2
  all_goals exact ⟨rfl, (by repeat (first | with_reducible exact Kept.refl _ | with_reducible assumption | with_reducible refine Kept.setCell ?_ (by first | (simp; done) | (simp; omega) | omega) _ | with_reducible refine Kept.alloc ?_ _ | with_reducible refine Kept.drewN ?_ _ | with_reducible refine Kept.drew ?_ | with_reducible refine Kept.trans ?_ (by with_reducible assumption) | with_reducible refine Kept.dr ?_ (by with_reducible assumption)))⟩
set_option maxHeartbeats 1000000 in
set_option maxRecDepth 100000 in
theorem cro_arg (c m d : Int) (h : (c < 0 ∨ 1000 < c) ∨ (m < 0 ∨ 2000 < m) ∨ (d < -4000 ∨ 4000 < d)) (w : World) : Calls Tryd.prog 21 #[.int .i64 c, .int .i64 m, .int .i64 d] w fun e w' => e = .returned (.tuple #[.int .i64 (0), .int .i64 (1)]) ∧ Kept w w' := by
  by_cases hc : c < 0 ∨ 1000 < c
  · have HV := Lib.hid (vcas_no c hc)
    clear h hc
    go_enter Tryd.func21, Tryd.ntmps21
    go_wp2_with fail
    with_reducible refine (HV.out _).mono ?_
    rintro e w' ⟨rfl, rfl⟩
    go_wp2_with fail
    all_goals go_ret2
    all_goals exact ⟨rfl, (by repeat (first | with_reducible exact Kept.refl _ | with_reducible assumption | with_reducible refine Kept.setCell ?_ (by first | (simp; done) | (simp; omega) | omega) _ | with_reducible refine Kept.alloc ?_ _ | with_reducible refine Kept.drewN ?_ _ | with_reducible refine Kept.drew ?_ | with_reducible refine Kept.trans ?_ (by with_reducible assumption) | with_reducible refine Kept.dr ?_ (by with_reducible assumption)))⟩
  by_cases hm : m < 0 ∨ 2000 < m
  · have HV := Lib.hid (vcas_yes c (by omega) (by omega))
    have HM := Lib.hid (vmach_no m hm)
    clear h hc hm
    go_enter Tryd.func21, Tryd.ntmps21
    go_wp2_with fail
    with_reducible refine (HV.out _).mono ?_
    rintro e w' ⟨rfl, rfl⟩
    go_wp2_with fail
    with_reducible refine (HM.out _).mono ?_
    rintro e w' ⟨rfl, rfl⟩
    go_wp2_with fail
    all_goals go_ret2
    all_goals exact ⟨rfl, (by repeat (first | with_reducible exact Kept.refl _ | with_reducible assumption | with_reducible refine Kept.setCell ?_ (by first | (simp; done) | (simp; omega) | omega) _ | with_reducible refine Kept.alloc ?_ _ | with_reducible refine Kept.drewN ?_ _ | with_reducible refine Kept.drew ?_ | with_reducible refine Kept.trans ?_ (by with_reducible assumption) | with_reducible refine Kept.dr ?_ (by with_reducible assumption)))⟩
  have HV := Lib.hid (vcas_yes c (by omega) (by omega))
  have HM := Lib.hid (vmach_yes m (by omega) (by omega))
  have hd : d < -4000 ∨ 4000 < d := by omega
  clear h hc hm
  rcases hd with hd | hd
  all_goals
    go_enter Tryd.func21, Tryd.ntmps21
    go_wp2_with fail
    with_reducible refine (HV.out _).mono ?_
    rintro e w' ⟨rfl, rfl⟩
    go_wp2_with fail
    with_reducible refine (HM.out _).mono ?_
    rintro e w' ⟨rfl, rfl⟩
    go_wp2_with fail
    all_goals go_ret2
    all_goals exact ⟨rfl, (by repeat (first | with_reducible exact Kept.refl _ | with_reducible assumption | with_reducible refine Kept.setCell ?_ (by first | (simp; done) | (simp; omega) | omega) _ | with_reducible refine Kept.alloc ?_ _ | with_reducible refine Kept.drewN ?_ _ | with_reducible refine Kept.drew ?_ | with_reducible refine Kept.trans ?_ (by with_reducible assumption) | with_reducible refine Kept.dr ?_ (by with_reducible assumption)))⟩
set_option maxHeartbeats 1000000 in
set_option maxRecDepth 100000 in
theorem cro_ok (c m d : Int) (V : Int) (hL : Lst (croP c m d) (-200000) 6000000 V) (c0 : 0 ≤ c) (c1 : c ≤ 1000) (m0 : 0 ≤ m) (m1 : m ≤ 2000) (d0 : -4000 ≤ d) (d1 : d ≤ 4000) (w : World) (ht : Hid (Tab w)) : Calls Tryd.prog 21 #[.int .i64 c, .int .i64 m, .int .i64 d] w fun e w' => e = .returned (.tuple #[.int .i64 (V), .int .i64 (0)]) ∧ Kept w w' := by
  have HV := Lib.hid (vcas_yes c c0 c1)
  have HM := Lib.hid (vmach_yes m m0 m1)
  have HL := Lib.hid (fun W (k : Kept w W) => least_cro c m d V (w.heap.size) (w.heap.size + 2) (w.heap.size + 1) c0 c1 d0 d1 hL W (Lib.hid (tab_kept ht.out k)))
  clear hL
  go_enter Tryd.func21, Tryd.ntmps21
  go_wp2_with fail
  with_reducible refine (HV.out _).mono ?_
  rintro e w' ⟨rfl, rfl⟩
  go_wp2_with fail
  with_reducible refine (HM.out _).mono ?_
  rintro e w' ⟨rfl, rfl⟩
  go_wp2_with fail
  refine (HL.out _ (by repeat (first | with_reducible exact Kept.refl _ | with_reducible assumption | with_reducible refine Kept.setCell ?_ (by first | (simp; done) | (simp; omega) | omega) _ | with_reducible refine Kept.alloc ?_ _ | with_reducible refine Kept.drewN ?_ _ | with_reducible refine Kept.drew ?_ | with_reducible refine Kept.trans ?_ (by with_reducible assumption) | with_reducible refine Kept.dr ?_ (by with_reducible assumption))) (by simp; try omega) (by simp [go_sem]) (by simp) (by simp [go_sem]) (by simp; try omega) (by simp [go_sem])).mono ?_
  rintro e w3 ⟨rfl, hk3⟩
  refine kuse (b := w.heap.size) hk3 (by first | (simp; done) | (simp; omega) | omega) ?_
  intro ha hb
  have hz3_0 : w.heap.size < w3.heap.size := by have := hk3.size; (try simp at this); omega
  have hn3_0 : ¬ w.heap.size = w3.heap.size := by omega
  have hm3_0 : ¬ w3.heap.size = w.heap.size := by omega
  have hf3_0_0 : w3.cell? ⟨w.heap.size, 0, none⟩ = some (.int .i64 c) := by first | (rw [ha]; with_reducible assumption) | (simp (maxDischargeDepth := 7) [go_sem, ha]; done) | (rw [ha]; assumption) | (simp (maxDischargeDepth := 7) [go_sem, ha, *]; done)
  try have hg3_0 : ∀ o, w3.frozen? ⟨w.heap.size, o, none⟩ = false := by intro o; first | (simp (maxDischargeDepth := 7) [go_sem, hb]; done) | (rw [hb]; simp (maxDischargeDepth := 7) [go_sem, *]; done)
  clear ha hb
  refine kuse (b := w.heap.size + 1) hk3 (by first | (simp; done) | (simp; omega) | omega) ?_
  intro ha hb
  have hz3_1 : w.heap.size + 1 < w3.heap.size := by have := hk3.size; (try simp at this); omega
  have hn3_1 : ¬ w.heap.size + 1 = w3.heap.size := by omega
  have hm3_1 : ¬ w3.heap.size = w.heap.size + 1 := by omega
  have hf3_1_0 : w3.cell? ⟨w.heap.size + 1, 0, none⟩ = some (.int .i64 m) := by first | (rw [ha]; with_reducible assumption) | (simp (maxDischargeDepth := 7) [go_sem, ha]; done) | (rw [ha]; assumption) | (simp (maxDischargeDepth := 7) [go_sem, ha, *]; done)
  try have hg3_1 : ∀ o, w3.frozen? ⟨w.heap.size + 1, o, none⟩ = false := by intro o; first | (simp (maxDischargeDepth := 7) [go_sem, hb]; done) | (rw [hb]; simp (maxDischargeDepth := 7) [go_sem, *]; done)
  clear ha hb
  refine kuse (b := w.heap.size + 2) hk3 (by first | (simp; done) | (simp; omega) | omega) ?_
  intro ha hb
  have hz3_2 : w.heap.size + 2 < w3.heap.size := by have := hk3.size; (try simp at this); omega
  have hn3_2 : ¬ w.heap.size + 2 = w3.heap.size := by omega
  have hm3_2 : ¬ w3.heap.size = w.heap.size + 2 := by omega
  have hf3_2_0 : w3.cell? ⟨w.heap.size + 2, 0, none⟩ = some (.int .i64 d) := by first | (rw [ha]; with_reducible assumption) | (simp (maxDischargeDepth := 7) [go_sem, ha]; done) | (rw [ha]; assumption) | (simp (maxDischargeDepth := 7) [go_sem, ha, *]; done)
  try have hg3_2 : ∀ o, w3.frozen? ⟨w.heap.size + 2, o, none⟩ = false := by intro o; first | (simp (maxDischargeDepth := 7) [go_sem, hb]; done) | (rw [hb]; simp (maxDischargeDepth := 7) [go_sem, *]; done)
  clear ha hb
  go_wp2_with fail
  all_goals go_ret2
  all_goals exact ⟨rfl, (by repeat (first | with_reducible exact Kept.refl _ | with_reducible assumption | with_reducible refine Kept.setCell ?_ (by first | (simp; done) | (simp; omega) | omega) _ | with_reducible refine Kept.alloc ?_ _ | with_reducible refine Kept.drewN ?_ _ | with_reducible refine Kept.drew ?_ | with_reducible refine Kept.trans ?_ (by with_reducible assumption) | with_reducible refine Kept.dr ?_ (by with_reducible assumption)))⟩
set_option maxHeartbeats 1000000 in
set_option maxRecDepth 100000 in
theorem cro_rng (c m d : Int) (hno : croP c m d 6000000 = false) (c0 : 0 ≤ c) (c1 : c ≤ 1000) (m0 : 0 ≤ m) (m1 : m ≤ 2000) (d0 : -4000 ≤ d) (d1 : d ≤ 4000) (w : World) (ht : Hid (Tab w)) : Calls Tryd.prog 21 #[.int .i64 c, .int .i64 m, .int .i64 d] w fun e w' => e = .returned (.tuple #[.int .i64 (0), .int .i64 (2)]) ∧ Kept w w' := by
  have HV := Lib.hid (vcas_yes c c0 c1)
  have HM := Lib.hid (vmach_yes m m0 m1)
  have HL := Lib.hid (fun W (k : Kept w W) => least_cro_no c m d (w.heap.size) (w.heap.size + 2) (w.heap.size + 1) c0 c1 d0 d1 hno W (Lib.hid (tab_kept ht.out k)))
  clear hno
  go_enter Tryd.func21, Tryd.ntmps21
  go_wp2_with fail
  with_reducible refine (HV.out _).mono ?_
  rintro e w' ⟨rfl, rfl⟩
  go_wp2_with fail
  with_reducible refine (HM.out _).mono ?_
  rintro e w' ⟨rfl, rfl⟩
  go_wp2_with fail
  refine (HL.out _ (by repeat (first | with_reducible exact Kept.refl _ | with_reducible assumption | with_reducible refine Kept.setCell ?_ (by first | (simp; done) | (simp; omega) | omega) _ | with_reducible refine Kept.alloc ?_ _ | with_reducible refine Kept.drewN ?_ _ | with_reducible refine Kept.drew ?_ | with_reducible refine Kept.trans ?_ (by with_reducible assumption) | with_reducible refine Kept.dr ?_ (by with_reducible assumption))) (by simp; try omega) (by simp [go_sem]) (by simp) (by simp [go_sem]) (by simp; try omega) (by simp [go_sem])).mono ?_
  rintro e w3 ⟨rfl, hk3⟩
  refine kuse (b := w.heap.size) hk3 (by first | (simp; done) | (simp; omega) | omega) ?_
  intro ha hb
  have hz3_0 : w.heap.size < w3.heap.size := by have := hk3.size; (try simp at this); omega
  have hn3_0 : ¬ w.heap.size = w3.heap.size := by omega
  have hm3_0 : ¬ w3.heap.size = w.heap.size := by omega
  have hf3_0_0 : w3.cell? ⟨w.heap.size, 0, none⟩ = some (.int .i64 c) := by first | (rw [ha]; with_reducible assumption) | (simp (maxDischargeDepth := 7) [go_sem, ha]; done) | (rw [ha]; assumption) | (simp (maxDischargeDepth := 7) [go_sem, ha, *]; done)
  try have hg3_0 : ∀ o, w3.frozen? ⟨w.heap.size, o, none⟩ = false := by intro o; first | (simp (maxDischargeDepth := 7) [go_sem, hb]; done) | (rw [hb]; simp (maxDischargeDepth := 7) [go_sem, *]; done)
  clear ha hb
  refine kuse (b := w.heap.size + 1) hk3 (by first | (simp; done) | (simp; omega) | omega) ?_
  intro ha hb
  have hz3_1 : w.heap.size + 1 < w3.heap.size := by have := hk3.size; (try simp at this); omega
  have hn3_1 : ¬ w.heap.size + 1 = w3.heap.size := by omega
  have hm3_1 : ¬ w3.heap.size = w.heap.size + 1 := by omega
  have hf3_1_0 : w3.cell? ⟨w.heap.size + 1, 0, none⟩ = some (.int .i64 m) := by first | (rw [ha]; with_reducible assumption) | (simp (maxDischargeDepth := 7) [go_sem, ha]; done) | (rw [ha]; assumption) | (simp (maxDischargeDepth := 7) [go_sem, ha, *]; done)
  try have hg3_1 : ∀ o, w3.frozen? ⟨w.heap.size + 1, o, none⟩ = false := by intro o; first | (simp (maxDischargeDepth := 7) [go_sem, hb]; done) | (rw [hb]; simp (maxDischargeDepth := 7) [go_sem, *]; done)
  clear ha hb
  refine kuse (b := w.heap.size + 2) hk3 (by first | (simp; done) | (simp; omega) | omega) ?_
  intro ha hb
  have hz3_2 : w.heap.size + 2 < w3.heap.size := by have := hk3.size; (try simp at this); omega
  have hn3_2 : ¬ w.heap.size + 2 = w3.heap.size := by omega
  have hm3_2 : ¬ w3.heap.size = w.heap.size + 2 := by omega
  have hf3_2_0 : w3.cell? ⟨w.heap.size + 2, 0, none⟩ = some (.int .i64 d) := by first | (rw [ha]; with_reducible assumption) | (simp (maxDischargeDepth := 7) [go_sem, ha]; done) | (rw [ha]; assumption) | (simp (maxDischargeDepth := 7) [go_sem, ha, *]; done)
  try have hg3_2 : ∀ o, w3.frozen? ⟨w.heap.size + 2, o, none⟩ = false := by intro o; first | (simp (maxDischargeDepth := 7) [go_sem, hb]; done) | (rw [hb]; simp (maxDischargeDepth := 7) [go_sem, *]; done)
  clear ha hb
  go_wp2_with fail
  all_goals go_ret2
  all_goals exact ⟨rfl, (by repeat (first | with_reducible exact Kept.refl _ | with_reducible assumption | with_reducible refine Kept.setCell ?_ (by first | (simp; done) | (simp; omega) | omega) _ | with_reducible refine Kept.alloc ?_ _ | with_reducible refine Kept.drewN ?_ _ | with_reducible refine Kept.drew ?_ | with_reducible refine Kept.trans ?_ (by with_reducible assumption) | with_reducible refine Kept.dr ?_ (by with_reducible assumption)))⟩
end Go.Proofs.YtfkgghjinkmpiaaDoor
