/-
  Own contracts: package crc and the document's answers of layer 6: the register.
-/
import Derived.Test.YtbldklaipdbdjaaDoorCrcm
import Derived.Test.YtbldklaipdbdjaaDoorBase
import Derived.Test.YtbldklaipdbdjaaDoorRows
import Derived.Laws.BitsAllLaws
import Derived.Outline
import Derived.WalkKit
import Derived.ProofKit
import Derived.OpenShut
import Derived.WalkLawsBesides
import Derived.WalkSpells
import Derived.Lib.Hide
import Derived.Deep.DeepCutAuto
import Derived.Deep.CutBlock
import Derived.Deep.QuietTactic
import Derived.BigQuiet
import Derived.Handy
import Derived.StillTailTactics
import Derived.IntWalk
import Derived.LoopN
import Derived.Deep.RegionHeld3
namespace Go.Proofs.YtbldklaipdbdjaaDoor
open Go.ChangeShapes Go.WideShapes Go.ChangeAt Go.RowKit
set_option linter.unusedVariables false
set_option linter.unusedSimpArgs false

/-- the table of the half bytes, as the row lays it -/
def Tab (w : World) : Prop := ∀ i : Nat, i < 16 → w.cell? ⟨0, i, none⟩ = some (.int .u32 (nib i))
theorem nx0 (y : Nat) (h : y < 4294967296) : bits .and .u32 (y : Int) 15 = ((y % 16 : Nat) : Int) := by
  rw [u32_and _ _ (by omega) (by omega) (by decide) (by decide)]
  have h4 : y &&& 15 = y % 16 := Nat.and_two_pow_sub_one_eq_mod y 4
  rw [show (y : Int).toNat = y from rfl, show ((15 : Int).toNat) = 15 from rfl, h4]
theorem nx (y : Nat) (h : y < 4294967296) : ∃ t z n : Nat, t < 16 ∧ z < 4294967296 ∧ z = st4 y ∧ bits .and .u32 (y : Int) 15 = (t : Int) ∧ nib t = n ∧ bits .xor .u32 ((y : Int) / 16) (n : Int) = (z : Int) := by
  refine ⟨y % 16, st4 y, nib (y % 16), by omega, st4_lt y h, rfl, nx0 y h, rfl, ?_⟩
  have hn := nib_lt (y % 16)
  rw [u32_xor _ _ (by omega) (by omega) (by omega) (by omega), ← st4_nib]
  have e : ((y : Int) / 16).toNat = y / 16 := by omega
  rw [e]; rfl
theorem rx (r x : Nat) (hr : r < 4294967296) (hx : x < 256) : ∃ y : Nat, y < 4294967296 ∧ y = r ^^^ x ∧ bits .xor .u32 (r : Int) (x : Int) = (y : Int) :=
  ⟨r ^^^ x, Nat.xor_lt_two_pow (n := 32) hr (by omega), rfl, by rw [u32_xor _ _ (by omega) (by omega) (by omega) (by omega)]; rfl⟩
theorem ones32 (b : Nat) (hb : b < 4294967296) : 4294967295 ^^^ b = 4294967295 - b := by
  apply Nat.eq_of_testBit_eq
  intro i
  have h1 := Nat.testBit_two_pow_sub_one 32 i
  have h2 := Nat.testBit_two_pow_sub_succ (n := 32) (x := b) (by omega) i
  rw [show (2 ^ 32 - 1 : Nat) = 4294967295 by decide] at h1
  rw [show (2 ^ 32 - (b + 1) : Nat) = 4294967295 - b by omega] at h2
  rw [Nat.testBit_xor, h1, h2]
  by_cases h : i < 32
  · simp [h]
  · have : b.testBit i = false := Nat.testBit_lt_two_pow (Nat.lt_of_lt_of_le (show b < 2 ^ 32 by omega) (Nat.pow_le_pow_right (by omega) (by omega)))
    simp [h, this]
theorem not_u32 (s : Int) (s_0 : 0 ≤ s) (s_1 : s ≤ 4294967295) : bits .xor .u32 IntKind.u32.max s = ((4294967295 - s.toNat : Nat) : Int) := by
  rw [u32_xor _ _ (by decide) (by decide) s_0 (by omega)]
  rw [show IntKind.u32.max.toNat = 4294967295 by decide, ones32 _ (by omega)]
def itb (y : Nat) : Nat → Nat | 0 => y | k + 1 => bst (itb y k)
theorem itb_lt (y : Nat) (h : y < 4294967296) : ∀ k, itb y k < 4294967296 | 0 => h | k + 1 => bst_lt _ (itb_lt y h k)
theorem and1 (y : Nat) (h : y < 4294967296) : bits .and .u32 (y : Int) 1 = ((y % 2 : Nat) : Int) := by
  rw [u32_and _ _ (by omega) (by omega) (by decide) (by decide)]
  have h4 : y &&& 1 = y % 2 := Nat.and_two_pow_sub_one_eq_mod y 1
  rw [show (y : Int).toNat = y from rfl, show ((1 : Int).toNat) = 1 from rfl, h4]
theorem bst_odd (y : Nat) (h : y < 4294967296) (k : y % 2 = 1) : ∃ z : Nat, z = bst y ∧ bits .xor .u32 ((y : Int) / 2) 3988292384 = (z : Int) := by
  refine ⟨_, rfl, ?_⟩
  unfold bst
  rw [if_pos k, u32_xor _ _ (by omega) (by omega) (by decide) (by decide)]
  have e : ((y : Int) / 2).toNat = y / 2 := by omega
  rw [e]; rfl
theorem bst_evn (y : Nat) (k : y % 2 = 0) : (y : Int) / 2 = (bst y : Nat) := by unfold bst; rw [if_neg (by omega)]; omega
set_option maxHeartbeats 1000000 in
theorem step_w (r b : Nat) (hr : r < 4294967296) (hb : b < 256) (w : World) : Calls Tryd.prog 33 #[.int .u32 (r : Int), .int .u8 (b : Int)] w fun en w' => en = .returned (.int .u32 (byt r b : Nat)) ∧ w = w' := by
  obtain ⟨y, y0, hy, hX⟩ := rx r b hr hb
  have E : Hid (byt r b = itb y 8) := Lib.hid (by rw [hy]; rfl)
  clear hy
  go_enter Tryd.func33, Tryd.ntmps33
  go_wp2
  go_loop [0, 5] (fun r i => ∃ k : Nat, k ≤ 8 ∧ i = .int .i64 k ∧ r = .int .u32 (itb y k : Nat)) (fun _ i => 8 - (intOf i).toNat)
  case atStart => exact ⟨0, Nat.zero_le _, rfl, rfl⟩
  case round =>
    obtain ⟨k, hk, rfl, rfl⟩ := hrel
    have hl := itb_lt y y0 k
    generalize hs : itb y k = v at hl ⊢
    have HS := Lib.hid hs
    clear hs
    by_cases hlt : k < 8
    · have ha := and1 v hl
      have hd : v % 2 = 0 ∨ v % 2 = 1 := by omega
      rcases hd with hd | hd
      · rw [hd] at ha
        have hev := bst_evn v hd
        clear hd
        go_wp2
        exact ⟨⟨k + 1, by omega, by go_num, by simp only [itb, HS.out] <;> rw [hev]⟩, by simp [intOf]; omega⟩
      · rw [hd] at ha
        obtain ⟨z, hz, hX2⟩ := bst_odd v hl hd
        have HZ := Lib.hid hz
        clear hd hz
        go_wp2
        exact ⟨⟨k + 1, by omega, by go_num, by simp only [itb, HS.out] <;> rw [HZ.out]⟩, by simp [intOf]; omega⟩
    · obtain rfl : k = 8 := by omega
      go_wp2
      go_ret
      refine ⟨?_, rfl⟩
      rw [E.out, HS.out]; rfl
set_option maxHeartbeats 1000000 in
theorem upd_w (s : Int) (s_0 : 0 ≤ s) (s_1 : s ≤ 4294967295) (p : Option Addr) (n c b o : Nat) (F : Nat → Int) (hn : n ≤ maxLen) (fb : ∀ i, i < n → 0 ≤ F i ∧ F i ≤ 255) (w : World) (hp : 0 < n → p = some ⟨b, o, none⟩) (hc : ∀ i, i < n → w.cell? ⟨b, o + i, none⟩ = some (.int .u8 (F i))) (ht : Tab w) : Calls Tryd.prog 17 #[.int .u32 s, .slice p n c] w fun en w' => en = .returned (.int .u32 (cks s F n)) ∧ w = w' := by
  unfold maxLen at hn
  have hx : bits .xor .u32 IntKind.u32.max s = ((4294967295 - s.toNat : Nat) : Int) := not_u32 s s_0 s_1
  have R0 : 4294967295 - s.toNat < 4294967296 := by omega
  have Hp := Lib.hid hp; have Hc := Lib.hid hc; have Fb := Lib.hid fb; have Ht := Lib.hid ht
  clear hp hc fb ht
  go_enter Tryd.func17, Tryd.ntmps17
  generalize e0 : 4294967295 - s.toNat = r0 at R0 hx
  have E0 := Lib.hid e0
  clear e0
  go_wp2
  go_loop [5, 12] (fun r i => ∃ k : Nat, k ≤ n ∧ i = .int .i64 k ∧ r = .int .u32 (rg F r0 k : Nat)) (fun _ i => n - (intOf i).toNat)
  case atStart => exact ⟨0, Nat.zero_le _, rfl, rfl⟩
  case round =>
    obtain ⟨k, hk, rfl, rfl⟩ := hrel
    have hr := rg_lt F r0 n R0 Fb.out k hk
    by_cases hlt : k < n
    · have c0 := Hc.out k hlt
      obtain ⟨f0, f1⟩ := Fb.out k hlt
      obtain rfl := Hp.out (by omega)
      generalize hs : rg F r0 k = r at hr ⊢
      have HS := Lib.hid hs
      clear hs
      obtain ⟨x, hx⟩ : ∃ x : Nat, F k = x := ⟨(F k).toNat, by omega⟩
      rw [hx] at c0 f0 f1
      have HX := Lib.hid hx
      clear hx
      obtain ⟨y, y0, hy, hX⟩ := rx r x hr (by omega)
      obtain ⟨t1, z, n1, t1l, z0, hz, hA1, hT1, hX1⟩ := nx y y0
      obtain ⟨t2, v, n2, t2l, v0, hv, hA2, hT2, hX2⟩ := nx z z0
      have ct1 := Ht.out t1 t1l
      have ct2 := Ht.out t2 t2l
      rw [hT1] at ct1
      rw [hT2] at ct2
      have HY := Lib.hid hy; have HZ := Lib.hid hz; have HV := Lib.hid hv
      clear hy hz hv hT1 hT2
      go_wp2
      exact ⟨⟨k + 1, by omega, by go_num, by simp only [rg, HS.out, HX.out]; rw [HV.out, HZ.out, HY.out]; rfl⟩, by simp [intOf]; omega⟩
    · obtain rfl : k = n := by omega
      generalize hs : rg F r0 k = r at hr ⊢
      have HS := Lib.hid hs
      clear hs
      have hX := not_u32 (r : Int) (by omega) (by omega)
      have E : Hid (cks s F k = ((4294967295 - (r : Int).toNat : Nat) : Int)) := Lib.hid (by unfold cks; rw [E0.out, HS.out]; omega)
      generalize hu : 4294967295 - (r : Int).toNat = u at E hX
      clear hu
      go_wp2
      go_ret
      refine ⟨?_, rfl⟩
      rw [E.out]; rfl
theorem sum_w (p : Option Addr) (n c b o : Nat) (F : Nat → Int) (hn : n ≤ maxLen) (fb : ∀ i, i < n → 0 ≤ F i ∧ F i ≤ 255) (w : World) (hp : 0 < n → p = some ⟨b, o, none⟩) (hc : ∀ i, i < n → w.cell? ⟨b, o + i, none⟩ = some (.int .u8 (F i))) (ht : Tab w) : Calls Tryd.prog 15 #[.slice p n c] w fun en w' => en = .returned (.int .u32 (cks 0 F n)) ∧ w = w' := by
  go_enter Tryd.func15, Tryd.ntmps15
  go_wp2_with (first | (go_at_call 17; refine (upd_w 0 (by omega) (by omega) p n c b o F hn fb _ hp hc ht).mono ?_; rintro e w' ⟨rfl, rfl⟩))
  go_ret
  exact ⟨rfl, rfl⟩
set_option maxHeartbeats 1000000 in
theorem ref_upd_w (s : Int) (s_0 : 0 ≤ s) (s_1 : s ≤ 4294967295) (p : Option Addr) (n c b o : Nat) (F : Nat → Int) (hn : n ≤ maxLen) (fb : ∀ i, i < n → 0 ≤ F i ∧ F i ≤ 255) (w : World) (hp : 0 < n → p = some ⟨b, o, none⟩) (hc : ∀ i, i < n → w.cell? ⟨b, o + i, none⟩ = some (.int .u8 (F i))) : Calls Tryd.prog 18 #[.int .u32 s, .slice p n c] w fun en w' => en = .returned (.int .u32 (cks s F n)) ∧ w = w' := by
  unfold maxLen at hn
  have hx : bits .xor .u32 IntKind.u32.max s = ((4294967295 - s.toNat : Nat) : Int) := not_u32 s s_0 s_1
  have R0 : 4294967295 - s.toNat < 4294967296 := by omega
  have Hp := Lib.hid hp; have Hc := Lib.hid hc; have Fb := Lib.hid fb
  clear hp hc fb
  go_enter Tryd.func18, Tryd.ntmps18
  generalize e0 : 4294967295 - s.toNat = r0 at R0 hx
  have E0 := Lib.hid e0
  clear e0
  go_wp2
  
  go_loop [5, 12] (fun r i => ∃ k : Nat, k ≤ n ∧ i = .int .i64 k ∧ r = .int .u32 (rg F r0 k : Nat)) (fun _ i => n - (intOf i).toNat)
  case atStart => exact ⟨0, Nat.zero_le _, rfl, rfl⟩
  case round =>
    obtain ⟨k, hk, rfl, rfl⟩ := hrel
    have hr := rg_lt F r0 n R0 Fb.out k hk
    by_cases hlt : k < n
    · have c0 := Hc.out k hlt
      obtain ⟨f0, f1⟩ := Fb.out k hlt
      obtain rfl := Hp.out (by omega)
      generalize hs : rg F r0 k = r at hr ⊢
      have HS := Lib.hid hs
      clear hs
      obtain ⟨x, hx⟩ : ∃ x : Nat, F k = x := ⟨(F k).toNat, by omega⟩
      rw [hx] at c0 f0 f1
      have HX := Lib.hid hx
      clear hx
      go_wp2_with (first | (go_at_call 33; refine (step_w r x hr (by omega) _).mono ?_; rintro e w' ⟨rfl, rfl⟩))
      exact ⟨⟨k + 1, by omega, by go_num, by simp only [rg, HS.out, HX.out]; rfl⟩, by simp [intOf]; omega⟩
    · obtain rfl : k = n := by omega
      generalize hs : rg F r0 k = r at hr ⊢
      have HS := Lib.hid hs
      clear hs
      have hX := not_u32 (r : Int) (by omega) (by omega)
      have E : Hid (cks s F k = ((4294967295 - (r : Int).toNat : Nat) : Int)) := Lib.hid (by unfold cks; rw [E0.out, HS.out]; omega)
      generalize hu : 4294967295 - (r : Int).toNat = u at E hX
      clear hu
      go_wp2
      go_ret
      refine ⟨?_, rfl⟩
      rw [E.out]; rfl
theorem ref_sum_w (p : Option Addr) (n c b o : Nat) (F : Nat → Int) (hn : n ≤ maxLen) (fb : ∀ i, i < n → 0 ≤ F i ∧ F i ≤ 255) (w : World) (hp : 0 < n → p = some ⟨b, o, none⟩) (hc : ∀ i, i < n → w.cell? ⟨b, o + i, none⟩ = some (.int .u8 (F i))) : Calls Tryd.prog 16 #[.slice p n c] w fun en w' => en = .returned (.int .u32 (cks 0 F n)) ∧ w = w' := by
  go_enter Tryd.func16, Tryd.ntmps16
  go_wp2_with (first | (go_at_call 18; refine (ref_upd_w 0 (by omega) (by omega) p n c b o F hn fb _ hp hc ).mono ?_; rintro e w' ⟨rfl, rfl⟩))
  go_ret
  exact ⟨rfl, rfl⟩
end Go.Proofs.YtbldklaipdbdjaaDoor
