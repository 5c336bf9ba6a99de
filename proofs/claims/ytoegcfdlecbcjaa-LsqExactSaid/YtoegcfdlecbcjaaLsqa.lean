/-
  Own contracts: package lsq and the document of layer 42: measurements and their check.
-/
import Derived.Test.YtoegcfdlecbcjaaBits
import Derived.Test.YtoegcfdlecbcjaaLsqn
import Derived.Test.YtoegcfdlecbcjaaSlice
import Derived.Test.YtoegcfdlecbcjaaBase
import Derived.WalkKit
import Derived.ProofKit
import Derived.OpenShut
import Derived.WalkLawsBesides
import Derived.WalkSpells
import Derived.Lib.Hide
import Derived.Deep.DeepCutAuto
import Derived.Deep.CutBlock
import Derived.Deep.QuietTactic
import Derived.BigQuiet
import Derived.Handy
import Derived.StillTailTactics
import Derived.IntWalk
import Derived.LoopN
import Derived.Deep.RegionHeld3
namespace Go.Proofs.Ytoegcfdlecbcjaa
open Go.ChangeShapes Go.WideShapes Go.ChangeAt Go.RowKit
set_option linter.unusedVariables false
set_option linter.unusedSimpArgs false
/-- a list of measurements in memory -/
structure SlM (w : World) (p : Option Addr) (n b o : Nat) (M : Ms) : Prop where
  hp : 0 < n → p = some ⟨b, o, none⟩ ∧ b < w.heap.size
  cs : ∀ i, i < n → w.cell? ⟨b, o + i * 6, none⟩ = some (.int .i64 (M.s i))
  ca : ∀ i, i < n → w.cell? ⟨b, o + i * 6 + 1, none⟩ = some (.int .i64 (M.a i))
  cb : ∀ i, i < n → w.cell? ⟨b, o + i * 6 + 2, none⟩ = some (.int .i64 (M.b i))
  cz : ∀ i, i < n → w.cell? ⟨b, o + i * 6 + 3, none⟩ = some (.int .i64 (M.z i))
  ce : ∀ i, i < n → w.cell? ⟨b, o + i * 6 + 4, none⟩ = some (.int .i64 (M.e i))
  cu : ∀ i, i < n → w.cell? ⟨b, o + i * 6 + 5, none⟩ = some (.int .i64 (M.u i))
theorem SlM.kept {w W : World} {p : Option Addr} {n b o : Nat} {M : Ms} (h : SlM w p n b o M) (hk : Kept w W) : SlM W p n b o M := by
  have g : ∀ i k, i < n → W.cell? ⟨b, k, none⟩ = w.cell? ⟨b, k, none⟩ := fun i k hi => hk.cell (p := ⟨b, k, none⟩) (h.hp (by omega)).2
  exact ⟨fun h0 => ⟨(h.hp h0).1, Nat.lt_of_lt_of_le (h.hp h0).2 hk.size⟩, fun i hi => (g i _ hi).trans (h.cs i hi), fun i hi => (g i _ hi).trans (h.ca i hi), fun i hi => (g i _ hi).trans (h.cb i hi), fun i hi => (g i _ hi).trans (h.cz i hi), fun i hi => (g i _ hi).trans (h.ce i hi), fun i hi => (g i _ hi).trans (h.cu i hi)⟩
def inB (v lo hi : Int) : Bool := decide (lo ≤ v ∧ v ≤ hi)
theorem inB_yes {v lo hi : Int} (h : inB v lo hi = true) : lo ≤ v ∧ v ≤ hi := of_decide_eq_true h
theorem inB_no {v lo hi : Int} (h : inB v lo hi = false) : ¬ (lo ≤ v ∧ v ≤ hi) := of_decide_eq_false h
theorem inB_z : inB 0 (-256) 256 = true := by decide
theorem retB {x y : Bool} (h : x = y) : Ending.returned (.bool x) = .returned (.bool y) := by rw [h]
def mokB (s a b z e u : Int) : Bool := decide (1 ≤ s) && decide (s ≤ 8) && inB a (-256) 256 && inB b (-256) 256 && (!(a == 0) || !(b == 0)) && inB z (-4294967296) 4294967296 && inB e 0 4294967296 && inB u 1 16
theorem mok_B (s a b z e u : Int) : mok s a b z e u = mokB s a b z e u := by
  rw [Bool.eq_iff_iff]
  unfold mok mokB inB
  simp only [Bool.and_eq_true, Bool.or_eq_true, decide_eq_true_eq, Bool.not_eq_true', beq_eq_false_iff_ne]
  constructor
  · rintro ⟨h1, h2, h3, h4, h5, h6, h7, h8, h9, h10, h11, h12, h13⟩; exact ⟨⟨⟨⟨⟨⟨⟨h1, h2⟩, h3, h4⟩, h5, h6⟩, h7⟩, h8, h9⟩, h10, h11⟩, h12, h13⟩
  · rintro ⟨⟨⟨⟨⟨⟨⟨h1, h2⟩, h3, h4⟩, h5, h6⟩, h7⟩, h8, h9⟩, h10, h11⟩, h12, h13⟩; exact ⟨h1, h2, h3, h4, h5, h6, h7, h8, h9, h10, h11, h12, h13⟩
set_option maxHeartbeats 2000000 in
set_option maxRecDepth 100000 in
theorem within_w (v lo hi : Int) (w : World) : Calls Try.prog 53 #[.int .i64 v, .int .i64 lo, .int .i64 hi] w fun e w' => e = .returned (.bool (inB v lo hi)) ∧ w = w' := by
  go_enter Try.func53, Try.ntmps53
  go_wp2_with fail
  all_goals first | (go_ret; refine ⟨retB ?_, rfl⟩; unfold inB; simp; omega) | (exfalso; omega)
set_option maxHeartbeats 2000000 in
set_option maxRecDepth 100000 in
theorem valid_w (s a b z d u : Int) (w : World) : Calls Try.prog 32 #[.agg #[.int .i64 s, .int .i64 a, .int .i64 b, .int .i64 z, .int .i64 d, .int .i64 u]] w fun e w' => e = .returned (.bool (mok s a b z d u)) ∧ Kept w w' := by
  rw [mok_B]
  go_enter Try.func32, Try.ntmps32
  go_wp2_with (go_at_call 53; refine (within_w _ _ _ _).mono ?_; rintro e w' ⟨rfl, rfl⟩)
  all_goals first | (go_ret; refine ⟨retB ?_, (by repeat (first | with_reducible exact Kept.refl _ | with_reducible assumption | with_reducible refine Kept.setCell ?_ (by first | (simp; done) | (simp; omega) | omega) _ | with_reducible refine Kept.alloc ?_ _ | with_reducible refine Kept.drewN ?_ _ | with_reducible refine Kept.drew ?_ | with_reducible refine Kept.trans ?_ (by with_reducible assumption) | with_reducible refine Kept.dr ?_ (by with_reducible assumption)))⟩; simp [mokB, bne, inB_z, *]; done) | (go_ret; refine ⟨retB ?_, (by repeat (first | with_reducible exact Kept.refl _ | with_reducible assumption | with_reducible refine Kept.setCell ?_ (by first | (simp; done) | (simp; omega) | omega) _ | with_reducible refine Kept.alloc ?_ _ | with_reducible refine Kept.drewN ?_ _ | with_reducible refine Kept.drew ?_ | with_reducible refine Kept.trans ?_ (by with_reducible assumption) | with_reducible refine Kept.dr ?_ (by with_reducible assumption)))⟩; simp [mokB, bne, inB_z, *]; omega) | (exfalso; omega)
set_option maxHeartbeats 2000000 in
set_option maxRecDepth 100000 in
theorem ref_within_w (v lo hi : Int) (w : World) : Calls Try.prog 54 #[.int .i64 v, .int .i64 lo, .int .i64 hi] w fun e w' => e = .returned (.bool (inB v lo hi)) ∧ w = w' := by
  go_enter Try.func54, Try.ntmps54
  go_wp2_with fail
  all_goals first | (go_ret; refine ⟨retB ?_, rfl⟩; unfold inB; simp; omega) | (exfalso; omega)
set_option maxHeartbeats 2000000 in
set_option maxRecDepth 100000 in
theorem ref_valid_w (s a b z d u : Int) (w : World) : Calls Try.prog 33 #[.agg #[.int .i64 s, .int .i64 a, .int .i64 b, .int .i64 z, .int .i64 d, .int .i64 u]] w fun e w' => e = .returned (.bool (mok s a b z d u)) ∧ Kept w w' := by
  rw [mok_B]
  go_enter Try.func33, Try.ntmps33
  go_wp2_with (go_at_call 54; refine (ref_within_w _ _ _ _).mono ?_; rintro e w' ⟨rfl, rfl⟩)
  all_goals first | (go_ret; refine ⟨retB ?_, (by repeat (first | with_reducible exact Kept.refl _ | with_reducible assumption | with_reducible refine Kept.setCell ?_ (by first | (simp; done) | (simp; omega) | omega) _ | with_reducible refine Kept.alloc ?_ _ | with_reducible refine Kept.drewN ?_ _ | with_reducible refine Kept.drew ?_ | with_reducible refine Kept.trans ?_ (by with_reducible assumption) | with_reducible refine Kept.dr ?_ (by with_reducible assumption)))⟩; simp [mokB, bne, inB_z, *]; done) | (go_ret; refine ⟨retB ?_, (by repeat (first | with_reducible exact Kept.refl _ | with_reducible assumption | with_reducible refine Kept.setCell ?_ (by first | (simp; done) | (simp; omega) | omega) _ | with_reducible refine Kept.alloc ?_ _ | with_reducible refine Kept.drewN ?_ _ | with_reducible refine Kept.drew ?_ | with_reducible refine Kept.trans ?_ (by with_reducible assumption) | with_reducible refine Kept.dr ?_ (by with_reducible assumption)))⟩; simp [mokB, bne, inB_z, *]; omega) | (exfalso; omega)
set_option maxHeartbeats 2000000 in
set_option maxRecDepth 100000 in
theorem check_w (p : Option Addr) (n c b o : Nat) (M : Ms) (hn : n ≤ maxLen) (w : World) (hS : SlM w p n b o M) : Calls Try.prog 16 #[.slice p n c] w fun e w' => e = .returned (.int .i64 (M.chk n)) ∧ Kept w w' := by
  unfold maxLen at hn
  have HS := Lib.hid hS
  clear hS
  by_cases h16 : 16 < n
  · rw [Ms.chk_lim h16]
    go_enter Try.func16, Try.ntmps16
    go_wp2_with fail
    go_ret
    exact ⟨rfl, (by repeat (first | with_reducible exact Kept.refl _ | with_reducible assumption | with_reducible refine Kept.setCell ?_ (by first | (simp; done) | (simp; omega) | omega) _ | with_reducible refine Kept.alloc ?_ _ | with_reducible refine Kept.drewN ?_ _ | with_reducible refine Kept.drew ?_ | with_reducible refine Kept.trans ?_ (by with_reducible assumption) | with_reducible refine Kept.dr ?_ (by with_reducible assumption)))⟩
  · have n16 : n ≤ 16 := by omega
    clear h16
    go_enter Try.func16, Try.ntmps16
    go_wp2_with fail
    go_loopw [10] (fun i wr => ∃ k : Nat, i = .int .i64 k ∧ k ≤ n ∧ Hid (M.all k = true) ∧ Hid (Kept w wr)) (fun i _ => n - (intOf i).toNat)
    case atStart => exact ⟨0, rfl, Nat.zero_le _, Lib.hid rfl, Lib.hid (Kept.refl _)⟩
    case round =>
      obtain ⟨k, rfl, hk, HA, HK⟩ := hrel
      by_cases hlt : k < n
      · obtain ⟨s, hs⟩ : ∃ x, M.s k = x := ⟨_, rfl⟩
        obtain ⟨a, ha⟩ : ∃ x, M.a k = x := ⟨_, rfl⟩
        obtain ⟨bb, hb⟩ : ∃ x, M.b k = x := ⟨_, rfl⟩
        obtain ⟨z, hz⟩ : ∃ x, M.z k = x := ⟨_, rfl⟩
        obtain ⟨ee, he⟩ : ∃ x, M.e k = x := ⟨_, rfl⟩
        obtain ⟨u, hu⟩ : ∃ x, M.u k = x := ⟨_, rfl⟩
        have hS := HS.out.kept HK.out
        have c0 := hS.cs k hlt
        have c1 := hS.ca k hlt
        have c2 := hS.cb k hlt
        have c3 := hS.cz k hlt
        have c4 := hS.ce k hlt
        have c5 := hS.cu k hlt
        obtain ⟨hp, hb_⟩ := hS.hp (by omega)
        rw [hs] at c0
        rw [ha] at c1
        rw [hb] at c2
        rw [hz] at c3
        rw [he] at c4
        rw [hu] at c5
        clear hS
        subst hp
        have hv := valid_w s a bb z ee u
        cases g : mok s a bb z ee u
        · rw [g] at hv
          have E : M.chk n = 1 := Ms.chk_bad n16 (Ms.all_bad (k := k) (by unfold Ms.ok; rw [hs, ha, hb, hz, he, hu]; exact g) hlt)
          have HE := Lib.hid E
          have HV := Lib.hid hv
          clear hv g hs ha hb hz he hu E
          go_wp2_with fail
          with_reducible refine (HV.out _).mono ?_
          rintro e w' ⟨rfl, hk1⟩
          have HK1 := HK.out
          clear HK HA HS
          go_wp2_with fail
          rw [HE.out]
          go_ret
          exact ⟨rfl, (by repeat (first | with_reducible exact Kept.refl _ | with_reducible assumption | with_reducible refine Kept.setCell ?_ (by first | (simp; done) | (simp; omega) | omega) _ | with_reducible refine Kept.alloc ?_ _ | with_reducible refine Kept.drewN ?_ _ | with_reducible refine Kept.drew ?_ | with_reducible refine Kept.trans ?_ (by with_reducible assumption) | with_reducible refine Kept.dr ?_ (by with_reducible assumption)))⟩
        · rw [g] at hv
          have HA2 : Hid (M.all (k + 1) = true) := Lib.hid (by show (M.all k && M.ok k) = true; rw [HA.out]; unfold Ms.ok; rw [hs, ha, hb, hz, he, hu, g]; rfl)
          have HV := Lib.hid hv
          clear hv g hs ha hb hz he hu
          go_wp2_with fail
          with_reducible refine (HV.out _).mono ?_
          rintro e w' ⟨rfl, hk1⟩
          have HK1 := HK.out
          clear HK HA
          go_wp2_with fail
          exact ⟨⟨k + 1, by go_num, by omega, HA2, Lib.hid (by repeat (first | with_reducible exact Kept.refl _ | with_reducible assumption | with_reducible refine Kept.setCell ?_ (by first | (simp; done) | (simp; omega) | omega) _ | with_reducible refine Kept.alloc ?_ _ | with_reducible refine Kept.drewN ?_ _ | with_reducible refine Kept.drew ?_ | with_reducible refine Kept.trans ?_ (by with_reducible assumption) | with_reducible refine Kept.dr ?_ (by with_reducible assumption)))⟩, by simp [intOf]; omega⟩
      · obtain rfl : k = n := by omega
        have HE := Lib.hid (Ms.chk_ok n16 HA.out)
        have hkk := HK.out
        clear HK HA HS
        go_wp2_with fail
        rw [HE.out]
        go_ret
        exact ⟨rfl, (by repeat (first | with_reducible exact Kept.refl _ | with_reducible assumption | with_reducible refine Kept.setCell ?_ (by first | (simp; done) | (simp; omega) | omega) _ | with_reducible refine Kept.alloc ?_ _ | with_reducible refine Kept.drewN ?_ _ | with_reducible refine Kept.drew ?_ | with_reducible refine Kept.trans ?_ (by with_reducible assumption) | with_reducible refine Kept.dr ?_ (by with_reducible assumption)))⟩
set_option maxHeartbeats 2000000 in
set_option maxRecDepth 100000 in
theorem ref_check_w (p : Option Addr) (n c b o : Nat) (M : Ms) (hn : n ≤ maxLen) (w : World) (hS : SlM w p n b o M) : Calls Try.prog 17 #[.slice p n c] w fun e w' => e = .returned (.int .i64 (M.chk n)) ∧ Kept w w' := by
  unfold maxLen at hn
  have HS := Lib.hid hS
  clear hS
  by_cases h16 : 16 < n
  · rw [Ms.chk_lim h16]
    go_enter Try.func17, Try.ntmps17
    go_wp2_with fail
    go_ret
    exact ⟨rfl, (by repeat (first | with_reducible exact Kept.refl _ | with_reducible assumption | with_reducible refine Kept.setCell ?_ (by first | (simp; done) | (simp; omega) | omega) _ | with_reducible refine Kept.alloc ?_ _ | with_reducible refine Kept.drewN ?_ _ | with_reducible refine Kept.drew ?_ | with_reducible refine Kept.trans ?_ (by with_reducible assumption) | with_reducible refine Kept.dr ?_ (by with_reducible assumption)))⟩
  · have n16 : n ≤ 16 := by omega
    clear h16
    go_enter Try.func17, Try.ntmps17
    go_wp2_with fail
    go_loopw [10] (fun i wr => ∃ k : Nat, i = .int .i64 k ∧ k ≤ n ∧ Hid (M.all k = true) ∧ Hid (Kept w wr)) (fun i _ => n - (intOf i).toNat)
    case atStart => exact ⟨0, rfl, Nat.zero_le _, Lib.hid rfl, Lib.hid (Kept.refl _)⟩
    case round =>
      obtain ⟨k, rfl, hk, HA, HK⟩ := hrel
      by_cases hlt : k < n
      · obtain ⟨s, hs⟩ : ∃ x, M.s k = x := ⟨_, rfl⟩
        obtain ⟨a, ha⟩ : ∃ x, M.a k = x := ⟨_, rfl⟩
        obtain ⟨bb, hb⟩ : ∃ x, M.b k = x := ⟨_, rfl⟩
        obtain ⟨z, hz⟩ : ∃ x, M.z k = x := ⟨_, rfl⟩
        obtain ⟨ee, he⟩ : ∃ x, M.e k = x := ⟨_, rfl⟩
        obtain ⟨u, hu⟩ : ∃ x, M.u k = x := ⟨_, rfl⟩
        have hS := HS.out.kept HK.out
        have c0 := hS.cs k hlt
        have c1 := hS.ca k hlt
        have c2 := hS.cb k hlt
        have c3 := hS.cz k hlt
        have c4 := hS.ce k hlt
        have c5 := hS.cu k hlt
        obtain ⟨hp, hb_⟩ := hS.hp (by omega)
        rw [hs] at c0
        rw [ha] at c1
        rw [hb] at c2
        rw [hz] at c3
        rw [he] at c4
        rw [hu] at c5
        clear hS
        subst hp
        have hv := ref_valid_w s a bb z ee u
        cases g : mok s a bb z ee u
        · rw [g] at hv
          have E : M.chk n = 1 := Ms.chk_bad n16 (Ms.all_bad (k := k) (by unfold Ms.ok; rw [hs, ha, hb, hz, he, hu]; exact g) hlt)
          have HE := Lib.hid E
          have HV := Lib.hid hv
          clear hv g hs ha hb hz he hu E
          go_wp2_with fail
          with_reducible refine (HV.out _).mono ?_
          rintro e w' ⟨rfl, hk1⟩
          have HK1 := HK.out
          clear HK HA HS
          go_wp2_with fail
          rw [HE.out]
          go_ret
          exact ⟨rfl, (by repeat (first | with_reducible exact Kept.refl _ | with_reducible assumption | with_reducible refine Kept.setCell ?_ (by first | (simp; done) | (simp; omega) | omega) _ | with_reducible refine Kept.alloc ?_ _ | with_reducible refine Kept.drewN ?_ _ | with_reducible refine Kept.drew ?_ | with_reducible refine Kept.trans ?_ (by with_reducible assumption) | with_reducible refine Kept.dr ?_ (by with_reducible assumption)))⟩
        · rw [g] at hv
          have HA2 : Hid (M.all (k + 1) = true) := Lib.hid (by show (M.all k && M.ok k) = true; rw [HA.out]; unfold Ms.ok; rw [hs, ha, hb, hz, he, hu, g]; rfl)
          have HV := Lib.hid hv
          clear hv g hs ha hb hz he hu
          go_wp2_with fail
          with_reducible refine (HV.out _).mono ?_
          rintro e w' ⟨rfl, hk1⟩
          have HK1 := HK.out
          clear HK HA
          go_wp2_with fail
          exact ⟨⟨k + 1, by go_num, by omega, HA2, Lib.hid (by repeat (first | with_reducible exact Kept.refl _ | with_reducible assumption | with_reducible refine Kept.setCell ?_ (by first | (simp; done) | (simp; omega) | omega) _ | with_reducible refine Kept.alloc ?_ _ | with_reducible refine Kept.drewN ?_ _ | with_reducible refine Kept.drew ?_ | with_reducible refine Kept.trans ?_ (by with_reducible assumption) | with_reducible refine Kept.dr ?_ (by with_reducible assumption)))⟩, by simp [intOf]; omega⟩
      · obtain rfl : k = n := by omega
        have HE := Lib.hid (Ms.chk_ok n16 HA.out)
        have hkk := HK.out
        clear HK HA HS
        go_wp2_with fail
        rw [HE.out]
        go_ret
        exact ⟨rfl, (by repeat (first | with_reducible exact Kept.refl _ | with_reducible assumption | with_reducible refine Kept.setCell ?_ (by first | (simp; done) | (simp; omega) | omega) _ | with_reducible refine Kept.alloc ?_ _ | with_reducible refine Kept.drewN ?_ _ | with_reducible refine Kept.drew ?_ | with_reducible refine Kept.trans ?_ (by with_reducible assumption) | with_reducible refine Kept.dr ?_ (by with_reducible assumption)))⟩
end Go.Proofs.Ytoegcfdlecbcjaa
