/-
  The laws of layer 6 on damage of sealed strings; walks.
-/
import Derived.Test.YtbldklaipdbdjaaDoorCrcr
import Derived.Test.YtbldklaipdbdjaaDoorNum
import Derived.Laws.CopyOwn
import Derived.WalkKit
import Derived.ProofKit
import Derived.OpenShut
import Derived.WalkLawsBesides
import Derived.WalkSpells
import Derived.Lib.Hide
import Derived.Deep.DeepCutAuto
import Derived.Deep.CutBlock
import Derived.Deep.QuietTactic
import Derived.BigQuiet
import Derived.Handy
import Derived.StillTailTactics
import Derived.IntWalk
import Derived.LoopN
import Derived.Deep.RegionHeld3
namespace Go.Proofs.YtbldklaipdbdjaaDoor
open Go.ChangeShapes Go.WideShapes Go.ChangeAt Go.RowKit
set_option linter.unusedVariables false
set_option linter.unusedSimpArgs false

theorem at_w (x : Int) (n : Nat) (x0 : -9223372036854775808 ≤ x) (x1 : x ≤ 9223372036854775807) (n0 : 0 < n) (n1 : n ≤ 1000000) (y : Nat) (hy : x % (n : Int) = y) (w : World) : Calls Tryd.prog 27 #[.int .i64 x, .int .i64 n] w fun en w' => en = .returned (.int .i64 y) ∧ w = w' := by
  have hn : (0 : Int) < (n : Int) := by omega
  have hn2 : ¬ (n : Int) = 0 := by omega
  by_cases h0 : 0 ≤ x
  · have hb := Int.emod_lt_of_pos x hn
    go_enter Tryd.func27, Tryd.ntmps27
    go_wp2
    all_goals first | (go_ret; exact ⟨by rw [← hy]; rfl, rfl⟩) | (exfalso; omega)
  · obtain ⟨r, hr⟩ : ∃ r, x.tmod n = r := ⟨_, rfl⟩
    have hrb : -(n : Int) < r ∧ r ≤ 0 := by
      rw [← hr]
      have h1 := Int.neg_tmod (a := -x) (b := (n : Int))
      rw [Int.neg_neg] at h1
      have h2 := Int.tmod_lt_of_pos (-x) hn
      have h3 := Int.tmod_nonneg (b := (n : Int)) (a := -x) (by omega)
      omega
    have hyr : (y : Int) = if r < 0 then r + n else r := by
      split
      · rename_i h
        rw [← hy, ← hr]; rw [← hr] at h
        exact (tmod_neg x n hn h).1.symm
      · rename_i h
        have : r = 0 := by omega
        rw [← hy, ← hr]
        exact (tmod_pos x n hn (by rw [hr]; omega)).symm
    have HY := Lib.hid hyr
    clear hyr hy
    have hz : ((n : Int) == 0) = false := by simpa using hn2
    by_cases hr0 : r < 0
    · go_enter Tryd.func27, Tryd.ntmps27
      go_wp2_with fail
      all_goals first | (go_ret; exact ⟨by rw [HY.out, if_pos hr0]; rfl, rfl⟩) | (exfalso; omega)
    · obtain rfl : r = 0 := by omega
      have y0 : (y : Int) = 0 := by have := HY.out; rwa [if_neg (by omega)] at this
      have Y0 := Lib.hid y0
      clear y0 HY hr0 hrb
      go_enter Tryd.func27, Tryd.ntmps27
      go_wp2_with fail
      go_ret
      exact ⟨by rw [Y0.out]; rfl, rfl⟩
set_option maxHeartbeats 4000000 in
set_option maxRecDepth 100000 in
theorem law_bursts (p0 : Option Addr) (n0 c0 b0 o0 : Nat) (F0 : Nat → Int) (bit pt : Int) (hl0 : n0 ≤ c0) (hm0 : c0 ≤ maxLen) (fb0 : ∀ i, i < n0 → 0 ≤ F0 i ∧ F0 i ≤ 255) (bit_0 : -9223372036854775808 ≤ bit) (bit_1 : bit ≤ 9223372036854775807) (pt_0 : 0 ≤ pt) (pt_1 : pt ≤ 4294967295) (w : World) (hT : Hid (Tab w)) (hp0 : 0 < n0 → p0 = some ⟨b0, o0, none⟩ ∧ b0 < w.heap.size) (hn0 : p0 = none → c0 = 0) (hc0 : ∀ i, i < n0 → w.cell? ⟨b0, o0 + (i * 1 + 0), none⟩ = some (.int .u8 (F0 i))) : Calls Tryd.prog 10 #[.slice p0 n0 c0, .int .i64 bit, .int .u32 pt] w fun en w' => en = .returned (.bool true) ∧ Kept w w' := by
  obtain ⟨pat, rfl⟩ := Int.eq_ofNat_of_zero_le pt_0
  have hpat : pat < 4294967296 := by omega
  clear pt_0 pt_1
  have s0 : Sl w p0 n0 c0 b0 o0 F0 := ⟨hl0, hm0, hn0, fun h => (hp0 h).1, fb0, fun i hi => by simpa using hc0 i hi⟩
  clear hc0 hp0 hn0 fb0
  obtain ⟨m0, x0, y0, hmc0⟩ := cutm n0 300
  have MC0 := Lib.hid hmc0
  clear hmc0
  have S0 := Lib.hid (s0.cut m0 x0)
  clear s0
  go_enter Tryd.func10, Tryd.ntmps10
  go_wp2_with fail
  refine (awake_w _ hT.out).mono ?_
  rintro e w1 ⟨rfl, hk⟩
  have T1 := Lib.hid (tab_kept hk (World.block_lt_of_cell? _ _ (hT.out 0 (by decide))) hT.out)
  have C0 := Lib.hid (S0.out.kept hk)
  clear S0
  go_wp2_with fail
  refine (cut_w p0 n0 c0 300 m0 hl0 hm0 (by omega) MC0.out _).mono ?_
  rintro e w' ⟨rfl, rfl⟩
  clear MC0
  go_wp2_with fail
  refine (seal_w C0.out T1.out (by omega)).mono ?_
  rintro e w2 ⟨p2, c2, b2, rfl, o2, k2⟩
  have hres := seal_cks F0 m0 C0.out.bd
  obtain ⟨S, hS⟩ : ∃ S, (catF F0 m0 (fun i => (byteOf (cks 0 F0 m0).toNat i : Nat))) = S := ⟨_, rfl⟩
  rw [hS] at o2 hres
  have HRES := Lib.hid hres
  have O2 := Lib.hid o2
  have T2 := Lib.hid (tab_kept k2 (World.block_lt_of_cell? _ _ (T1.out 0 (by decide))) T1.out)
  have K2 := Lib.hid k2
  have l2 := o2.le
  have x2 := o2.mx
  unfold maxLen at x2
  clear o2 k2 hres hS
  obtain ⟨B, hB⟩ : ∃ B : Nat, bit % ((8 * m0 + 32 : Nat) : Int) = B := ⟨(bit % ((8 * m0 + 32 : Nat) : Int)).toNat, by have := Int.emod_nonneg bit (show ((8 * m0 + 32 : Nat) : Int) ≠ 0 by omega); omega⟩
  have hBl : B < 8 * m0 + 32 := by have := Int.emod_lt_of_pos bit (show (0 : Int) < ((8 * m0 + 32 : Nat) : Int) by omega); omega
  have ca := at_w bit (8 * m0 + 32) bit_0 bit_1 (by omega) (by omega) B hB
  rw [show ((8 * m0 + 32 : Nat) : Int) = 8 * (m0 : Int) + 32 by omega] at ca
  clear hB
  go_wp2_with fail
  refine (ca _).mono ?_
  rintro e w' ⟨rfl, rfl⟩
  clear ca
  go_wp2_with fail
  refine (flip_w O2.out.sl (by omega) (B : Int) (by omega) (by omega) pat hpat).mono ?_
  rintro e w3 (⟨hok, p3, c3, b3, rfl, o3, k3⟩ | ⟨hno, rfl, k3⟩)
  · have T3 := Lib.hid (tab_kept k3 (World.block_lt_of_cell? _ _ (T2.out 0 (by decide))) T2.out)
    have kk := Lib.hid ((hk.trans K2.out).trans k3)
    by_cases hp0 : pat = 0
    · subst hp0
      clear o3 k3 hok
      go_wp2_with fail
      go_ret
      exact ⟨by first | rfl | simp, kk.out⟩
    · have hne := burst_found S B pat (m0 + 4) hpat hp0 (by omega) hok HRES.out
      have co := open_sum o3.sl T3.out (by omega) (by omega) hne
      have hp1 : ((pat : Int) == 0) = false := by simpa using hp0
      clear o3 k3 hok hne
      go_wp2_with fail
      refine co.mono ?_
      rintro e w' ⟨rfl, rfl⟩
      go_wp2_with fail
      go_ret
      exact ⟨by first | rfl | simp, kk.out⟩
  · have kk := Lib.hid ((hk.trans K2.out).trans k3)
    clear k3 hno
    go_wp2_with fail
    go_ret
    exact ⟨by first | rfl | simp, kk.out⟩
set_option maxHeartbeats 4000000 in
set_option maxRecDepth 100000 in
theorem law_pairs (p0 : Option Addr) (n0 c0 b0 o0 : Nat) (F0 : Nat → Int) (i j : Int) (hl0 : n0 ≤ c0) (hm0 : c0 ≤ maxLen) (fb0 : ∀ i, i < n0 → 0 ≤ F0 i ∧ F0 i ≤ 255) (i_0 : -9223372036854775808 ≤ i) (i_1 : i ≤ 9223372036854775807) (j_0 : -9223372036854775808 ≤ j) (j_1 : j ≤ 9223372036854775807) (w : World) (hT : Hid (Tab w)) (hp0 : 0 < n0 → p0 = some ⟨b0, o0, none⟩ ∧ b0 < w.heap.size) (hn0 : p0 = none → c0 = 0) (hc0 : ∀ i, i < n0 → w.cell? ⟨b0, o0 + (i * 1 + 0), none⟩ = some (.int .u8 (F0 i))) : Calls Tryd.prog 11 #[.slice p0 n0 c0, .int .i64 i, .int .i64 j] w fun en w' => en = .returned (.bool true) ∧ Kept w w' := by
  have s0 : Sl w p0 n0 c0 b0 o0 F0 := ⟨hl0, hm0, hn0, fun h => (hp0 h).1, fb0, fun i hi => by simpa using hc0 i hi⟩
  clear hc0 hp0 hn0 fb0
  obtain ⟨m0, x0, y0, hmc0⟩ := cutm n0 1020
  have MC0 := Lib.hid hmc0
  clear hmc0
  have S0 := Lib.hid (s0.cut m0 x0)
  clear s0
  go_enter Tryd.func11, Tryd.ntmps11
  go_wp2_with fail
  refine (awake_w _ hT.out).mono ?_
  rintro e w1 ⟨rfl, hk⟩
  have T1 := Lib.hid (tab_kept hk (World.block_lt_of_cell? _ _ (hT.out 0 (by decide))) hT.out)
  have C0 := Lib.hid (S0.out.kept hk)
  clear S0
  go_wp2_with fail
  refine (cut_w p0 n0 c0 1020 m0 hl0 hm0 (by omega) MC0.out _).mono ?_
  rintro e w' ⟨rfl, rfl⟩
  clear MC0
  go_wp2_with fail
  refine (seal_w C0.out T1.out (by omega)).mono ?_
  rintro e w2 ⟨p2, c2, b2, rfl, o2, k2⟩
  have hres := seal_cks F0 m0 C0.out.bd
  obtain ⟨S, hS⟩ : ∃ S, (catF F0 m0 (fun i => (byteOf (cks 0 F0 m0).toNat i : Nat))) = S := ⟨_, rfl⟩
  rw [hS] at o2 hres
  have HRES := Lib.hid hres
  have O2 := Lib.hid o2
  have T2 := Lib.hid (tab_kept k2 (World.block_lt_of_cell? _ _ (T1.out 0 (by decide))) T1.out)
  have K2 := Lib.hid k2
  have l2 := o2.le
  have x2 := o2.mx
  unfold maxLen at x2
  clear o2 k2 hres hS
  obtain ⟨A, hA⟩ : ∃ B : Nat, i % ((8 * (m0 + 4) : Nat) : Int) = B := ⟨(i % ((8 * (m0 + 4) : Nat) : Int)).toNat, by have := Int.emod_nonneg i (show ((8 * (m0 + 4) : Nat) : Int) ≠ 0 by omega); omega⟩
  have Al : A < 8 * (m0 + 4) := by have := Int.emod_lt_of_pos i (show (0 : Int) < ((8 * (m0 + 4) : Nat) : Int) by omega); omega
  have cA := at_w i (8 * (m0 + 4)) i_0 i_1 (by omega) (by omega) A hA
  rw [show ((8 * (m0 + 4) : Nat) : Int) = 8 * ((m0 : Int) + 4) by omega] at cA
  clear hA
  obtain ⟨B, hB⟩ : ∃ B : Nat, j % ((8 * (m0 + 4) : Nat) : Int) = B := ⟨(j % ((8 * (m0 + 4) : Nat) : Int)).toNat, by have := Int.emod_nonneg j (show ((8 * (m0 + 4) : Nat) : Int) ≠ 0 by omega); omega⟩
  have Bl : B < 8 * (m0 + 4) := by have := Int.emod_lt_of_pos j (show (0 : Int) < ((8 * (m0 + 4) : Nat) : Int) by omega); omega
  have cB := at_w j (8 * (m0 + 4)) j_0 j_1 (by omega) (by omega) B hB
  rw [show ((8 * (m0 + 4) : Nat) : Int) = 8 * ((m0 : Int) + 4) by omega] at cB
  clear hB
  have kk2 := Lib.hid (hk.trans K2.out)
  go_wp2_with fail
  refine (cA _).mono ?_
  rintro e w' ⟨rfl, rfl⟩
  go_wp2_with fail
  refine (cB _).mono ?_
  rintro e w' ⟨rfl, rfl⟩
  clear cA cB
  by_cases hab : A = B
  · subst hab
    go_wp2_with fail
    go_ret
    exact ⟨by first | rfl | simp, kk2.out⟩
  · have habi : ((A : Int) == (B : Int)) = false := by simpa using (show ¬ (A : Int) = B by omega)
    have okA_ := Lib.hid (ok_one (m0 + 4) A Al)
    have okB_ := Lib.hid (ok_one (m0 + 4) B Bl)
    have hne := Lib.hid (pair_found S A B (m0 + 4) Al Bl (by omega) hab okA_.out okB_.out HRES.out)
    go_wp2_with fail
    refine (flip_w O2.out.sl (by omega) (A : Int) (by omega) (by omega) 1 (by omega)).mono ?_
    rintro e w3 (⟨_, p3, c3, b3, rfl, o3, k3⟩ | ⟨h, _⟩)
    rotate_left
    · exact absurd okA_.out h
    have O3 := Lib.hid o3
    have K3 := Lib.hid (K2.out.trans k3)
    clear o3 k3
    go_wp2_with fail
    refine (flip_w O3.out.sl (by omega) (B : Int) (by omega) (by omega) 1 (by omega)).mono ?_
    rintro e w4 (⟨_, p4, c4, b4, rfl, o4, k4⟩ | ⟨h, _⟩)
    rotate_left
    · exact absurd okB_.out h
    have K4 := K3.out.trans k4
    have T4 := (tab_kept K4 (World.block_lt_of_cell? _ _ (T1.out 0 (by decide))) T1.out)
    have co := open_sum o4.sl T4 (by omega) (by omega) hne.out
    have kk := Lib.hid (hk.trans K4)
    clear o4 k4 K4 T4
    go_wp2_with fail
    refine co.mono ?_
    rintro e w' ⟨rfl, rfl⟩
    go_wp2_with fail
    go_ret
    exact ⟨by first | rfl | simp, kk.out⟩
end Go.Proofs.YtbldklaipdbdjaaDoor
