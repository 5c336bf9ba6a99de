/-
  The laws of layer 6 on bits that are flipped; walks.
-/
import Derived.Test.YtbldklaipdbdjaaDoorCrcq
import Derived.Laws.CopyOwn
import Derived.WalkKit
import Derived.ProofKit
import Derived.OpenShut
import Derived.WalkLawsBesides
import Derived.WalkSpells
import Derived.Lib.Hide
import Derived.Deep.DeepCutAuto
import Derived.Deep.CutBlock
import Derived.Deep.QuietTactic
import Derived.BigQuiet
import Derived.Handy
import Derived.StillTailTactics
import Derived.IntWalk
import Derived.LoopN
import Derived.Deep.RegionHeld3
namespace Go.Proofs.YtbldklaipdbdjaaDoor
open Go.ChangeShapes Go.WideShapes Go.ChangeAt Go.RowKit
set_option linter.unusedVariables false
set_option linter.unusedSimpArgs false

/-- what is flipped in byte i by the first k bits of a pattern -/
def msk (bit : Int) (pat : Nat) : Nat → Nat → Nat
  | 0, _ => 0
  | k + 1, i => if pat / 2 ^ k % 2 = 1 ∧ i = (bit + k).toNat / 8 then msk bit pat k i ^^^ 2 ^ ((bit + k).toNat % 8) else msk bit pat k i
theorem msk_lt (bit : Int) (pat : Nat) : ∀ k i, msk bit pat k i < 256
  | 0, _ => Nat.zero_lt_succ _
  | k + 1, i => by
    unfold msk
    split
    · exact Nat.xor_lt_two_pow (n := 8) (msk_lt bit pat k i) (Nat.pow_lt_pow_right (by omega) (Nat.mod_lt _ (by omega)))
    · exact msk_lt bit pat k i
def flF (F : Nat → Int) (bit : Int) (pat k : Nat) (i : Nat) : Int := (((F i).toNat ^^^ msk bit pat k i : Nat) : Int)
def okK (n : Nat) (bit : Int) (pat k : Nat) : Prop := pat / 2 ^ k % 2 = 1 → 0 ≤ bit + k ∧ bit + k < 8 * n
def okA (n : Nat) (bit : Int) (pat : Nat) : Prop := ∀ k, k < 32 → okK n bit pat k
theorem flF_zero (F : Nat → Int) (bit : Int) (pat i : Nat) (h : 0 ≤ F i) : flF F bit pat 0 i = F i := by
  show (((F i).toNat ^^^ 0 : Nat) : Int) = F i
  rw [Nat.xor_zero]; omega
theorem flF_bd (F : Nat → Int) (bit : Int) (pat k i : Nat) (h : 0 ≤ F i ∧ F i ≤ 255) : 0 ≤ flF F bit pat k i ∧ flF F bit pat k i ≤ 255 := by
  have := Nat.xor_lt_two_pow (n := 8) (show (F i).toNat < 2 ^ 8 by omega) (msk_lt bit pat k i)
  unfold flF; omega
theorem flF_twice (F : Nat → Int) (bit : Int) (pat k i : Nat) (h : 0 ≤ F i) : flF (flF F bit pat k) bit pat k i = F i := by
  show ((((((F i).toNat ^^^ msk bit pat k i : Nat) : Int)).toNat ^^^ msk bit pat k i : Nat) : Int) = F i
  rw [Int.toNat_natCast, Nat.xor_assoc, Nat.xor_self, Nat.xor_zero]; omega
theorem flF_skip (F : Nat → Int) (bit : Int) (pat k : Nat) (h : ¬ pat / 2 ^ k % 2 = 1) (i : Nat) : flF F bit pat (k + 1) i = flF F bit pat k i := by
  unfold flF
  show (((F i).toNat ^^^ (if _ then _ else _) : Nat) : Int) = _
  rw [if_neg (fun h2 => h h2.1)]
theorem flF_set (F : Nat → Int) (bit : Int) (pat k a : Nat) (h : pat / 2 ^ k % 2 = 1) (ha : bit + k = a) (i : Nat) : flF F bit pat (k + 1) i = if i = a / 8 then (((flF F bit pat k (a / 8)).toNat ^^^ 2 ^ (a % 8) : Nat) : Int) else flF F bit pat k i := by
  have e : (bit + k).toNat = a := by omega
  unfold flF
  show (((F i).toNat ^^^ (if pat / 2 ^ k % 2 = 1 ∧ i = (bit + k).toNat / 8 then msk bit pat k i ^^^ 2 ^ ((bit + k).toNat % 8) else msk bit pat k i) : Nat) : Int) = _
  rw [e]
  by_cases hi : i = a / 8
  · rw [if_pos ⟨h, hi⟩, if_pos hi, ← hi, Int.toNat_natCast, Nat.xor_assoc]
  · rw [if_neg (fun h2 => hi h2.2), if_neg hi]
/-- what flipping comes to -/
def FlipIs (w : World) (n : Nat) (F : Nat → Int) (bit : Int) (pat : Nat) (e : Ending) (w' : World) : Prop :=
  (okA n bit pat ∧ GotE w n (flF F bit pat 32) 0 e w') ∨ (¬ okA n bit pat ∧ e = .returned (.tuple #[.slice none 0 0, .int .i64 2]) ∧ Kept w w')
theorem bit_and (pat k : Nat) (h : pat < 4294967296) : bits .and .u32 ((pat : Int) / 2 ^ k) 1 = ((pat / 2 ^ k % 2 : Nat) : Int) := by
  have hl : pat / 2 ^ k < 4294967296 := Nat.lt_of_le_of_lt (Nat.div_le_self _ _) h
  rw [show (pat : Int) / 2 ^ k = ((pat / 2 ^ k : Nat) : Int) by push_cast; rfl]
  exact and1 _ hl
/-- the state of the loop -/
def FlipK (w : World) (n c1 g : Nat) (p1 : Option Addr) (F : Nat → Int) (bit : Int) (pat k : Nat) (wr : World) : Prop := (∀ j, j < k → okK n bit pat j) ∧ Ow w wr p1 n c1 g (flF F bit pat k) ∧ Kept w wr
theorem flipk_skip {w wr : World} {n c1 g : Nat} {p1 : Option Addr} {F : Nat → Int} {bit : Int} {pat k : Nat} (h : FlipK w n c1 g p1 F bit pat k wr) (hb : ¬ pat / 2 ^ k % 2 = 1) : FlipK w n c1 g p1 F bit pat (k + 1) wr :=
  ⟨fun j hj => by
    by_cases e : j < k
    · exact h.1 j e
    · obtain rfl : j = k := by omega
      exact fun h2 => absurd h2 hb, h.2.1.congr (fun i _ => flF_skip F bit pat k hb i), h.2.2⟩
theorem flipk_set {w wr : World} {n c1 g : Nat} {p1 : Option Addr} {F : Nat → Int} {bit : Int} {pat k a : Nat} {v : Int} (h : FlipK w n c1 g p1 F bit pat k wr) (hb : pat / 2 ^ k % 2 = 1) (ha : bit + k = a) (hn : a < 8 * n) (hv : flF F bit pat k (a / 8) = v) (y : Int) (hy : ((v.toNat ^^^ 2 ^ (a % 8) : Nat) : Int) = y) :
    FlipK w n c1 g p1 F bit pat (k + 1) (wr.setCell ⟨g, a / 8, none⟩ (.int .u8 y)) := by
  have hlt : a / 8 < n := by omega
  have hyb : 0 ≤ y ∧ y ≤ 255 := by
    have hv2 := h.2.1.bd (a / 8) hlt
    rw [hv] at hv2
    have := Nat.xor_lt_two_pow (n := 8) (show v.toNat < 2 ^ 8 by omega) (Nat.pow_lt_pow_right (a := 2) (by omega) (Nat.mod_lt a (show 8 > 0 by omega)))
    omega
  refine ⟨fun j hj => ?_, (h.2.1.set (a / 8) hlt y hyb.1 hyb.2).congr (fun i _ => ?_), h.2.1.keeps (a / 8) hlt _ h.2.2 (Nat.le_refl _)⟩
  · by_cases e : j < k
    · exact h.1 j e
    · obtain rfl : j = k := by omega
      exact fun _ => by omega
  · rw [flF_set F bit pat k a hb ha i, hv, hy]
theorem flipk_drew {w wr : World} {n c1 g : Nat} {p1 : Option Addr} {F : Nat → Int} {bit : Int} {pat k : Nat} (h : FlipK w n c1 g p1 F bit pat k wr) : FlipK w n c1 g p1 F bit pat k wr.drew :=
  ⟨h.1, h.2.1.kept ((Kept.refl _).drew), h.2.2.drew⟩
theorem flipk_end {w wr : World} {n c1 g : Nat} {p1 : Option Addr} {F : Nat → Int} {bit : Int} {pat : Nat} (h : FlipK w n c1 g p1 F bit pat 32 wr) {e : Ending} (he : e = .returned (.tuple #[.slice p1 n c1, .int .i64 0])) : FlipIs w n F bit pat e wr :=
  Or.inl ⟨fun k hk => h.1 k hk, p1, c1, g, he, h.2.1, h.2.2⟩
theorem flipk_out {w wr : World} {n : Nat} {F : Nat → Int} {bit : Int} {pat k : Nat} (hk : k < 32) (hb : pat / 2 ^ k % 2 = 1) (ho : bit + k < 0 ∨ 8 * n ≤ bit + k) (hw : Kept w wr) {e : Ending} (he : e = .returned (.tuple #[.slice none 0 0, .int .i64 2])) : FlipIs w n F bit pat e wr :=
  Or.inr ⟨fun h => by have := h k hk hb; omega, he, hw⟩
set_option maxHeartbeats 4000000 in
set_option maxRecDepth 100000 in
theorem flip_w {p : Option Addr} {n c b o : Nat} {F : Nat → Int} {w : World} (h : Sl w p n c b o F) (hm : n ≤ 1000000) (bit : Int) (bit0 : -9223372036854775808 ≤ bit) (bit1 : bit ≤ 9223372036854775807) (pat : Nat) (hpat : pat < 4294967296) : Calls Tryd.prog 25 #[.slice p n c, .int .i64 bit, .int .u32 pat] w (FlipIs w n F bit pat) := by
  have H := Lib.hid h
  have hc := clone_s h hm
  clear h
  go_enter Tryd.func25, Tryd.ntmps25
  go_wp2_with fail
  refine hc.mono ?_
  rintro e w1 ⟨p1, c1, g, rfl, o1, k1⟩
  have o1' := o1.congr (G := flF F bit pat 0) (fun i hi => flF_zero F bit pat i (H.out.bd i hi).1)
  have O1 := Lib.hid o1'
  have K1 := Lib.hid k1
  have hl1 := o1.le
  have hx1 := o1.mx
  unfold maxLen at hx1
  clear o1 k1 o1' hc
  go_wp2_with fail
  go_loopw [13] (fun i wr => ∃ k : Nat, k ≤ 32 ∧ i = .int .i64 k ∧ Hid (FlipK w n c1 g p1 F bit pat k wr)) (fun i _ => 32 - (intOf i).toNat)
  case atStart => exact ⟨0, by omega, rfl, Lib.hid ⟨fun j hj => by omega, O1.out, K1.out⟩⟩
  case round =>
    obtain ⟨k, hk, rfl, hR⟩ := hrel
    by_cases hlt : k < 32
    · have hkk : (0 : Int) ≤ (k : Int) := by omega
      have hba := bit_and pat k hpat
      have h01 : pat / 2 ^ k % 2 = 0 ∨ pat / 2 ^ k % 2 = 1 := by omega
      rcases h01 with hb | hb
      · rw [hb] at hba
        have HN := Lib.hid (flipk_skip hR.out (by omega))
        clear hb hR
        go_wp2_with fail
        go_roundw
        case rel => exact ⟨k + 1, by omega, by go_num, HN⟩
        case measure => simp [intOf]; omega
      · rw [hb] at hba
        have HB := Lib.hid hb
        clear hb
        by_cases ho : bit + k < 0
        · go_wp2_with fail
          all_goals (go_ret2; exact flipk_out hlt HB.out (Or.inl ho) hR.out.2.2 rfl)
        · by_cases ho2 : 9223372036854775807 < bit + k
          · obtain ⟨z, hz⟩ : ∃ z, wrap64 (bit + k) = z := ⟨_, rfl⟩
            have z0 : z < 0 := by
              have hz2 := hz
              unfold wrap64 at hz2
              omega
            go_wp2_with fail
            all_goals (go_ret2; exact flipk_out hlt HB.out (Or.inr (by omega)) hR.out.2.2 rfl)
          · by_cases ho3 : 8 * n ≤ bit + k
            · obtain ⟨A, hA⟩ : ∃ A : Nat, bit + k = A := ⟨(bit + k).toNat, by omega⟩
              have hA8 : 8 * n ≤ A := by omega
              have hHR := Lib.hid (flipk_out (w := w) (wr := wr) (F := F) hlt HB.out (Or.inr ho3) hR.out.2.2 rfl)
              clear ho3
              go_wp2_with fail
              all_goals (go_ret2; exact hHR.out)
            · obtain ⟨A, hA⟩ : ∃ A : Nat, bit + k = A := ⟨(bit + k).toNat, by omega⟩
              have hA8 : A < 8 * n := by omega
              have hlt8 : A / 8 < n := by omega
              obtain ⟨v, hv⟩ : ∃ v, flF F bit pat k (A / 8) = v := ⟨_, rfl⟩
              have d0 := hR.out.2.1.by_ (A / 8) hlt8
              rw [Nat.zero_add, hv] at d0
              have vb := hR.out.2.1.bd (A / 8) hlt8
              rw [hv] at vb
              obtain ⟨v0, v1⟩ := vb
              have fz := (hR.out.2.1.own (by omega)).2.2
              obtain rfl := hR.out.2.1.at_ (by omega)
              obtain ⟨y, hy⟩ : ∃ y : Int, ((v.toNat ^^^ 2 ^ (A % 8) : Nat) : Int) = y := ⟨_, rfl⟩
              have HN := Lib.hid (flipk_set hR.out HB.out hA hA8 hv y hy)
              have hx := fun R (h : R = 2 ^ (A % 8)) (hR : R < 256) => (u8_xor v (R : Nat) v0 (by omega) (by omega) (by omega)).trans (show ((v.toNat ^^^ (R : Int).toNat : Nat) : Int) = y by rw [← hy, h]; rfl)
              clear ho ho2 ho3 hv hR hy
              have hm : A % 8 = 0 ∨ A % 8 = 1 ∨ A % 8 = 2 ∨ A % 8 = 3 ∨ A % 8 = 4 ∨ A % 8 = 5 ∨ A % 8 = 6 ∨ A % 8 = 7 := by omega
              rcases hm with hm | hm | hm | hm | hm | hm | hm | hm
              · have hx1 : bits .xor .u8 v 1 = y := hx 1 (by rw [hm]) (by omega)
                have hmi : (A : Int) % 8 = 0 := by omega
                clear hx hm
                go_wp2_with fail
                go_region
                go_wp2_with fail
                go_roundw
                case rel => exact ⟨k + 1, by omega, by go_num, Lib.hid (flipk_drew HN.out)⟩
                case measure => simp [intOf]; omega
              · have hx1 : bits .xor .u8 v 2 = y := hx 2 (by rw [hm]) (by omega)
                have hmi : (A : Int) % 8 = 1 := by omega
                clear hx hm
                go_wp2_with fail
                go_region
                go_wp2_with fail
                go_roundw
                case rel => exact ⟨k + 1, by omega, by go_num, Lib.hid (flipk_drew HN.out)⟩
                case measure => simp [intOf]; omega
              · have hx1 : bits .xor .u8 v 4 = y := hx 4 (by rw [hm]) (by omega)
                have hmi : (A : Int) % 8 = 2 := by omega
                clear hx hm
                go_wp2_with fail
                go_region
                go_wp2_with fail
                go_roundw
                case rel => exact ⟨k + 1, by omega, by go_num, Lib.hid (flipk_drew HN.out)⟩
                case measure => simp [intOf]; omega
              · have hx1 : bits .xor .u8 v 8 = y := hx 8 (by rw [hm]) (by omega)
                have hmi : (A : Int) % 8 = 3 := by omega
                clear hx hm
                go_wp2_with fail
                go_region
                go_wp2_with fail
                go_roundw
                case rel => exact ⟨k + 1, by omega, by go_num, Lib.hid (flipk_drew HN.out)⟩
                case measure => simp [intOf]; omega
              · have hx1 : bits .xor .u8 v 16 = y := hx 16 (by rw [hm]) (by omega)
                have hmi : (A : Int) % 8 = 4 := by omega
                clear hx hm
                go_wp2_with fail
                go_region
                go_wp2_with fail
                go_roundw
                case rel => exact ⟨k + 1, by omega, by go_num, Lib.hid (flipk_drew HN.out)⟩
                case measure => simp [intOf]; omega
              · have hx1 : bits .xor .u8 v 32 = y := hx 32 (by rw [hm]) (by omega)
                have hmi : (A : Int) % 8 = 5 := by omega
                clear hx hm
                go_wp2_with fail
                go_region
                go_wp2_with fail
                go_roundw
                case rel => exact ⟨k + 1, by omega, by go_num, Lib.hid (flipk_drew HN.out)⟩
                case measure => simp [intOf]; omega
              · have hx1 : bits .xor .u8 v 64 = y := hx 64 (by rw [hm]) (by omega)
                have hmi : (A : Int) % 8 = 6 := by omega
                clear hx hm
                go_wp2_with fail
                go_region
                go_wp2_with fail
                go_roundw
                case rel => exact ⟨k + 1, by omega, by go_num, Lib.hid (flipk_drew HN.out)⟩
                case measure => simp [intOf]; omega
              · have hx1 : bits .xor .u8 v 128 = y := hx 128 (by rw [hm]) (by omega)
                have hmi : (A : Int) % 8 = 7 := by omega
                clear hx hm
                go_wp2_with fail
                go_region
                go_wp2_with fail
                go_roundw
                case rel => exact ⟨k + 1, by omega, by go_num, Lib.hid (flipk_drew HN.out)⟩
                case measure => simp [intOf]; omega
    · obtain rfl : k = 32 := by omega
      go_wp2_with fail
      go_ret2
      exact flipk_end hR.out rfl
set_option maxHeartbeats 4000000 in
set_option maxRecDepth 100000 in
theorem ref_flip_w {p : Option Addr} {n c b o : Nat} {F : Nat → Int} {w : World} (h : Sl w p n c b o F) (hm : n ≤ 1000000) (bit : Int) (bit0 : -9223372036854775808 ≤ bit) (bit1 : bit ≤ 9223372036854775807) (pat : Nat) (hpat : pat < 4294967296) : Calls Tryd.prog 26 #[.slice p n c, .int .i64 bit, .int .u32 pat] w (FlipIs w n F bit pat) := by
  have H := Lib.hid h
  have k0 := (Kept.refl w).alloc (.cells #[] 5)
  have K0 := Lib.hid k0
  have S0 := Lib.hid (H.out.kept k0)
  clear h k0
  go_enter Tryd.func26, Tryd.ntmps26
  go_wp2_with (at_builtin; refine app_w rfl _ _ rfl (w0 := w) rfl rfl (rw_empty w _ (Nat.le_refl _) F) K0.out S0.out (by omega) ?_; intro v1 w1 H1 K1)
  have h1 := rw_first H1.out
  obtain ⟨p1, c1, g, rfl, o1⟩ := h1.ow H.out.bd
  have o1' := o1.congr (G := flF F bit pat 0) (fun i hi => flF_zero F bit pat i (H.out.bd i hi).1)
  have O1 := Lib.hid o1'
  have KK1 := Lib.hid K1
  have hl1 := o1.le
  have hx1 := o1.mx
  unfold maxLen at hx1
  clear o1 K1 o1' H1 h1
  go_loopw [9] (fun i wr => ∃ k : Nat, k ≤ 32 ∧ i = .int .i64 k ∧ Hid (FlipK w n c1 g p1 F bit pat k wr)) (fun i _ => 32 - (intOf i).toNat)
  case atStart => exact ⟨0, by omega, rfl, Lib.hid ⟨fun j hj => by omega, O1.out, KK1.out⟩⟩
  case round =>
    obtain ⟨k, hk, rfl, hR⟩ := hrel
    by_cases hlt : k < 32
    · have hkk : (0 : Int) ≤ (k : Int) := by omega
      have hba := bit_and pat k hpat
      have h01 : pat / 2 ^ k % 2 = 0 ∨ pat / 2 ^ k % 2 = 1 := by omega
      rcases h01 with hb | hb
      · rw [hb] at hba
        have HN := Lib.hid (flipk_skip hR.out (by omega))
        clear hb hR
        go_wp2_with fail
        go_roundw
        case rel => exact ⟨k + 1, by omega, by go_num, HN⟩
        case measure => simp [intOf]; omega
      · rw [hb] at hba
        have HB := Lib.hid hb
        clear hb
        by_cases ho : bit + k < 0
        · have ho' : bit < -(k : Int) := by omega
          go_wp2_with fail
          all_goals (go_ret2; exact flipk_out hlt HB.out (Or.inl ho) hR.out.2.2 rfl)
        · have ho' : ¬ bit < -(k : Int) := by omega
          by_cases ho3 : 8 * n ≤ bit + k
          · have ho4 : 8 * (n : Int) - k ≤ bit := by omega
            go_wp2_with fail
            all_goals (go_ret2; exact flipk_out hlt HB.out (Or.inr ho3) hR.out.2.2 rfl)
          · have ho4 : ¬ 8 * (n : Int) - k ≤ bit := by omega
            obtain ⟨A, hA⟩ : ∃ A : Nat, bit + k = A := ⟨(bit + k).toNat, by omega⟩
            have hA8 : A < 8 * n := by omega
            have hlt8 : A / 8 < n := by omega
            obtain ⟨v, hv⟩ : ∃ v, flF F bit pat k (A / 8) = v := ⟨_, rfl⟩
            have d0 := hR.out.2.1.by_ (A / 8) hlt8
            rw [Nat.zero_add, hv] at d0
            have vb := hR.out.2.1.bd (A / 8) hlt8
            rw [hv] at vb
            obtain ⟨v0, v1⟩ := vb
            have fz := (hR.out.2.1.own (by omega)).2.2
            obtain rfl := hR.out.2.1.at_ (by omega)
            obtain ⟨y, hy⟩ : ∃ y : Int, ((v.toNat ^^^ 2 ^ (A % 8) : Nat) : Int) = y := ⟨_, rfl⟩
            have HN := Lib.hid (flipk_set hR.out HB.out hA hA8 hv y hy)
            have hx := fun R (h : R = 2 ^ (A % 8)) (hR : R < 256) => (u8_xor v (R : Nat) v0 (by omega) (by omega) (by omega)).trans (show ((v.toNat ^^^ (R : Int).toNat : Nat) : Int) = y by rw [← hy, h]; rfl)
            clear ho ho3 hv hR hy
            have hm : A % 8 = 0 ∨ A % 8 = 1 ∨ A % 8 = 2 ∨ A % 8 = 3 ∨ A % 8 = 4 ∨ A % 8 = 5 ∨ A % 8 = 6 ∨ A % 8 = 7 := by omega
            rcases hm with hm | hm | hm | hm | hm | hm | hm | hm
            · have hx1 : bits .xor .u8 v 1 = y := hx 1 (by rw [hm]) (by omega)
              have hmi : (A : Int) % 8 = 0 := by omega
              clear hx hm
              go_wp2_with fail
              go_region
              go_wp2_with fail
              go_roundw
              case rel => exact ⟨k + 1, by omega, by go_num, Lib.hid (flipk_drew HN.out)⟩
              case measure => simp [intOf]; omega
            · have hx1 : bits .xor .u8 v 2 = y := hx 2 (by rw [hm]) (by omega)
              have hmi : (A : Int) % 8 = 1 := by omega
              clear hx hm
              go_wp2_with fail
              go_region
              go_wp2_with fail
              go_roundw
              case rel => exact ⟨k + 1, by omega, by go_num, Lib.hid (flipk_drew HN.out)⟩
              case measure => simp [intOf]; omega
            · have hx1 : bits .xor .u8 v 4 = y := hx 4 (by rw [hm]) (by omega)
              have hmi : (A : Int) % 8 = 2 := by omega
              clear hx hm
              go_wp2_with fail
              go_region
              go_wp2_with fail
              go_roundw
              case rel => exact ⟨k + 1, by omega, by go_num, Lib.hid (flipk_drew HN.out)⟩
              case measure => simp [intOf]; omega
            · have hx1 : bits .xor .u8 v 8 = y := hx 8 (by rw [hm]) (by omega)
              have hmi : (A : Int) % 8 = 3 := by omega
              clear hx hm
              go_wp2_with fail
              go_region
              go_wp2_with fail
              go_roundw
              case rel => exact ⟨k + 1, by omega, by go_num, Lib.hid (flipk_drew HN.out)⟩
              case measure => simp [intOf]; omega
            · have hx1 : bits .xor .u8 v 16 = y := hx 16 (by rw [hm]) (by omega)
              have hmi : (A : Int) % 8 = 4 := by omega
              clear hx hm
              go_wp2_with fail
              go_region
              go_wp2_with fail
              go_roundw
              case rel => exact ⟨k + 1, by omega, by go_num, Lib.hid (flipk_drew HN.out)⟩
              case measure => simp [intOf]; omega
            · have hx1 : bits .xor .u8 v 32 = y := hx 32 (by rw [hm]) (by omega)
              have hmi : (A : Int) % 8 = 5 := by omega
              clear hx hm
              go_wp2_with fail
              go_region
              go_wp2_with fail
              go_roundw
              case rel => exact ⟨k + 1, by omega, by go_num, Lib.hid (flipk_drew HN.out)⟩
              case measure => simp [intOf]; omega
            · have hx1 : bits .xor .u8 v 64 = y := hx 64 (by rw [hm]) (by omega)
              have hmi : (A : Int) % 8 = 6 := by omega
              clear hx hm
              go_wp2_with fail
              go_region
              go_wp2_with fail
              go_roundw
              case rel => exact ⟨k + 1, by omega, by go_num, Lib.hid (flipk_drew HN.out)⟩
              case measure => simp [intOf]; omega
            · have hx1 : bits .xor .u8 v 128 = y := hx 128 (by rw [hm]) (by omega)
              have hmi : (A : Int) % 8 = 7 := by omega
              clear hx hm
              go_wp2_with fail
              go_region
              go_wp2_with fail
              go_roundw
              case rel => exact ⟨k + 1, by omega, by go_num, Lib.hid (flipk_drew HN.out)⟩
              case measure => simp [intOf]; omega
    · obtain rfl : k = 32 := by omega
      go_wp2_with fail
      go_ret2
      exact flipk_end hR.out rfl
set_option maxHeartbeats 4000000 in
set_option maxRecDepth 100000 in
theorem law_flips (p0 : Option Addr) (n0 c0 b0 o0 : Nat) (F0 : Nat → Int) (bit pt : Int) (hl0 : n0 ≤ c0) (hm0 : c0 ≤ maxLen) (fb0 : ∀ i, i < n0 → 0 ≤ F0 i ∧ F0 i ≤ 255) (bit_0 : -9223372036854775808 ≤ bit) (bit_1 : bit ≤ 9223372036854775807) (pt_0 : 0 ≤ pt) (pt_1 : pt ≤ 4294967295) (w : World) (hT : Hid (Tab w)) (hp0 : 0 < n0 → p0 = some ⟨b0, o0, none⟩ ∧ b0 < w.heap.size) (hn0 : p0 = none → c0 = 0) (hc0 : ∀ i, i < n0 → w.cell? ⟨b0, o0 + (i * 1 + 0), none⟩ = some (.int .u8 (F0 i))) : Calls Tryd.prog 9 #[.slice p0 n0 c0, .int .i64 bit, .int .u32 pt] w fun en w' => en = .returned (.bool true) ∧ Kept w w' := by
  obtain ⟨pat, rfl⟩ := Int.eq_ofNat_of_zero_le pt_0
  have hpat : pat < 4294967296 := by omega
  clear pt_0 pt_1
  have s0 : Sl w p0 n0 c0 b0 o0 F0 := ⟨hl0, hm0, hn0, fun h => (hp0 h).1, fb0, fun i hi => by simpa using hc0 i hi⟩
  clear hc0 hp0 hn0 fb0
  obtain ⟨m0, x0, y0, hmc0⟩ := cutm n0 100
  have MC0 := Lib.hid hmc0
  clear hmc0
  have S0 := Lib.hid (s0.cut m0 x0)
  clear s0
  go_enter Tryd.func9, Tryd.ntmps9
  go_wp2_with fail
  refine (awake_w _ hT.out).mono ?_
  rintro e w1 ⟨rfl, hk⟩
  have T1 := Lib.hid (tab_kept hk (World.block_lt_of_cell? _ _ (hT.out 0 (by decide))) hT.out)
  have C0 := Lib.hid (S0.out.kept hk)
  clear S0
  go_wp2_with fail
  refine (cut_w p0 n0 c0 100 m0 hl0 hm0 (by omega) MC0.out _).mono ?_
  rintro e w' ⟨rfl, rfl⟩
  clear MC0
  have c0 := conv_w C0.out
  obtain ⟨was, hwas⟩ : ∃ was, bs F0 m0 = was := ⟨_, rfl⟩
  have WAS := Lib.hid hwas
  rw [hwas] at c0
  clear hwas
  go_wp2_with fail
  clear c0
  by_cases hok : okA m0 bit pat
  · have HOK := Lib.hid hok
    clear hok
    refine (flip_w C0.out (by omega) bit bit_0 bit_1 pat hpat).mono ?_
    rintro e w2 (⟨_, p2, c2, b2, rfl, o2, k2⟩ | ⟨h, _⟩)
    rotate_left
    · exact absurd HOK.out h
    have O2 := Lib.hid o2
    have K2 := Lib.hid k2
    clear o2 k2
    go_wp2_with fail
    refine (ref_flip_w (C0.out.kept K2.out) (by omega) bit bit_0 bit_1 pat hpat).mono ?_
    rintro e w3 (⟨_, p3, c3, b3, rfl, o3, k3⟩ | ⟨h, _⟩)
    rotate_left
    · exact absurd HOK.out h
    have cA := conv_w (O2.out.kept k3).sl
    have cB := conv_w o3.sl
    have cC := conv_w (C0.out.kept (K2.out.trans k3))
    rw [WAS.out] at cC
    have K3 := Lib.hid k3
    have O23 := Lib.hid (O2.out.kept k3)
    clear o3 k3
    go_wp2_with fail
    clear cA cB cC
    refine (flip_w O23.out.sl (by omega) bit bit_0 bit_1 pat hpat).mono ?_
    rintro e w4 (⟨_, p4, c4, b4, rfl, o4, k4⟩ | ⟨h, _⟩)
    rotate_left
    · exact absurd HOK.out h
    have o4' := o4.congr (G := F0) (fun i hi => (flF_twice F0 bit pat 32 i (C0.out.bd i hi).1).symm)
    have cD := conv_w o4'.sl
    rw [WAS.out] at cD
    have kk := Lib.hid (((hk.trans K2.out).trans K3.out).trans k4)
    clear o4 o4' k4
    go_wp2_with fail
    go_ret
    exact ⟨by first | rfl | simp, kk.out⟩
  · have HOK := Lib.hid hok
    clear hok
    refine (flip_w C0.out (by omega) bit bit_0 bit_1 pat hpat).mono ?_
    rintro e w2 (⟨h, _⟩ | ⟨_, rfl, k2⟩)
    · exact absurd h HOK.out
    have K2 := Lib.hid k2
    clear k2
    go_wp2_with fail
    refine (ref_flip_w (C0.out.kept K2.out) (by omega) bit bit_0 bit_1 pat hpat).mono ?_
    rintro e w3 (⟨h, _⟩ | ⟨_, rfl, k3⟩)
    · exact absurd h HOK.out
    have cA := conv_w (sl_none w3 F0)
    have cC := conv_w (C0.out.kept (K2.out.trans k3))
    rw [WAS.out] at cC
    have kk := Lib.hid ((hk.trans K2.out).trans k3)
    clear k3
    go_wp2_with fail
    go_ret
    exact ⟨by first | rfl | simp, kk.out⟩
end Go.Proofs.YtbldklaipdbdjaaDoor
