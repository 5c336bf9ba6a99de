/-
  Own contracts over the landed program: package fixed.
-/
import Derived.Test.YtknagaaahogpkaaBits
import Derived.WalkKit
import Derived.ProofKit
import Derived.OpenShut
import Derived.WalkLawsBesides
import Derived.WalkSpells
import Derived.Lib.Hide
import Derived.Deep.DeepCutAuto
import Derived.Deep.CutBlock
import Derived.Deep.QuietTactic
import Derived.BigQuiet
import Derived.Handy
namespace Go.Proofs.Ytknagaaahogpkaa
open Go.ChangeShapes Go.WideShapes Go.ChangeAt Go.RowKit
set_option linter.unusedVariables false
set_option linter.unusedSimpArgs false

/-- the sign as the walk writes it -/
theorem neg3_walk (a b c : Int) : neg3 a b c = (!((!(decide (a < 0) == decide (b < 0))) == decide (c < 0))) := by
  unfold neg3; cases decide (a < 0) <;> cases decide (b < 0) <;> cases decide (c < 0) <;> rfl

theorem extreme_w (n : Bool) (w : World) :
    Calls Try.prog 62 #[.bool n] w fun e w' => e = .returned (.int .i64 (if n then -9223372036854775808 else 9223372036854775807)) ∧ w = w' := by
  cases n <;>
  · go_enter Try.func62, Try.ntmps62
    go_wp2
    go_ret
    exact ⟨rfl, rfl⟩
theorem sub_w (a b : Int) (a0 : -9223372036854775808 ≤ a) (a1 : a ≤ 9223372036854775807) (b0 : -9223372036854775808 ≤ b) (b1 : b ≤ 9223372036854775807) (w : World) :
    Calls Try.prog 51 #[.int .i64 a, .int .i64 b] w fun e w' => e = .returned (.int .i64 (sat (a - b))) ∧ w = w' := by
  by_cases c1 : b = 0
  · subst c1
    have e : sat (a - 0) = a := by unfold sat; rw [if_neg (by omega), if_neg (by omega)]; omega
    have E := Lib.hid e
    clear e
    go_enter Try.func51, Try.ntmps51
    go_wp2
    go_ret
    refine ⟨?_, rfl⟩
    rw [E.out]; rfl
  · have c1' : (b != 0) = true := by rw [bne_iff_ne]; exact c1
    by_cases c2 : 0 < b
    · have c2' : ¬ b < 0 := by omega
      by_cases c3 : -9223372036854775808 ≤ (a - b)
      · have e : sat (a - b) = (a - b) := by unfold sat; rw [if_neg (by omega), if_neg (by omega)]
        have E := Lib.hid e
        clear e c1
        have c4 : a - b < a := by omega
        have c5 : ¬ a < a - b := by omega
        go_enter Try.func51, Try.ntmps51
        go_wp2
        go_ret
        refine ⟨?_, rfl⟩
        rw [E.out]; rfl
      · have e : sat (a - b) = -9223372036854775808 := by unfold sat; rw [if_pos (by omega)]
        have E := Lib.hid e
        clear e c1
        have c4 : a < wrap64 (a - b) := by unfold wrap64; omega
        generalize hs : wrap64 (a - b) = s at c4
        have c5 : ¬ s < a := by omega
        go_enter Try.func51, Try.ntmps51
        go_wp2_with (go_at_call 62; refine (extreme_w _ _).mono ?_; rintro e w' ⟨rfl, rfl⟩)
        go_ret
        refine ⟨?_, rfl⟩
        rw [E.out]; rfl
    · have c2' : b < 0 := by omega
      by_cases c3 : (a - b) ≤ 9223372036854775807
      · have e : sat (a - b) = (a - b) := by unfold sat; rw [if_neg (by omega), if_neg (by omega)]
        have E := Lib.hid e
        clear e c1
        have c4 : a < a - b := by omega
        have c5 : ¬ a - b < a := by omega
        go_enter Try.func51, Try.ntmps51
        go_wp2
        go_ret
        refine ⟨?_, rfl⟩
        rw [E.out]; rfl
      · have e : sat (a - b) = 9223372036854775807 := by unfold sat; rw [if_neg (by omega), if_pos (by omega)]
        have E := Lib.hid e
        clear e c1
        have c4 : wrap64 (a - b) < a := by unfold wrap64; omega
        generalize hs : wrap64 (a - b) = s at c4
        have c5 : ¬ a < s := by omega
        go_enter Try.func51, Try.ntmps51
        go_wp2_with (go_at_call 62; refine (extreme_w _ _).mono ?_; rintro e w' ⟨rfl, rfl⟩)
        go_ret
        refine ⟨?_, rfl⟩
        rw [E.out]; rfl
theorem abs_w (a : Int) (a0 : -9223372036854775808 ≤ a) (a1 : a ≤ 9223372036854775807) (w : World) :
    Calls Try.prog 39 #[.int .i64 a] w fun e w' => e = .returned (.int .i64 (sat a.natAbs)) ∧ w = w' := by
  by_cases c1 : a < 0
  · have e : sat (a.natAbs : Int) = sat (-a) := by congr 1; omega
    have E := Lib.hid e
    clear e
    go_enter Try.func39, Try.ntmps39
    go_wp2_with fail
    refine (sub_w 0 a (by omega) (by omega) (by omega) (by omega) _).mono ?_
    rintro e w1 ⟨rfl, rfl⟩
    go_wp2_with fail
    go_ret
    refine ⟨?_, rfl⟩
    rw [E.out]; rfl
  · have e : sat (a.natAbs : Int) = a := by unfold sat; rw [if_neg (by omega), if_neg (by omega)]; omega
    have E := Lib.hid e
    clear e
    go_enter Try.func39, Try.ntmps39
    go_wp2
    go_ret
    refine ⟨?_, rfl⟩
    rw [E.out]; rfl
theorem sqrt_w (n : Int) (n0 : -9223372036854775808 ≤ n) (n1 : n ≤ 9223372036854775807) (w : World) :
    Calls Try.prog 44 #[.int .i64 n] w fun e w' => e = .returned (.int .i64 (isq n)) ∧ w = w' := by
  by_cases c1 : n < 0
  · have e : isq n = 0 := by unfold isq; rw [if_pos c1]
    go_enter Try.func44, Try.ntmps44
    go_wp2
    go_ret
    refine ⟨?_, rfl⟩
    (try rw [e]); rfl
  · have e : isq n = isqS n.toNat 32 0 := by unfold isq; rw [if_neg c1]
    obtain ⟨N, rfl⟩ := Int.eq_ofNat_of_zero_le (show 0 ≤ n by omega)
    rw [Int.toNat_natCast] at e
    have E := Lib.hid e
    clear e
    go_enter Try.func44, Try.ntmps44
    go_wp2_with fail
    go_loop [3, 4, 5] (fun t b _ => ∃ k r : Nat, k ≤ 32 ∧ t = .int .i64 (r : Int) ∧ b = .int .i64 ((2 : Int) ^ k / 2) ∧ r % 2 ^ k = 0 ∧ r + 2 ^ k ≤ 4294967296 ∧ isqS N k r = isqS N 32 0) (fun _ b _ => (intOf b).toNat)
    case atStart => exact ⟨32, 0, by omega, rfl, rfl, rfl, by decide, rfl⟩
    case round =>
      obtain ⟨k, r, hk, rfl, rfl, hr, hb, hs⟩ := hrel
      cases k with
      | zero =>
        have hz : ((2 : Int) ^ 0 / 2) = 0 := rfl
        have HS := Lib.hid hs
        clear hs hr hb
        go_wp2
        go_ret
        refine ⟨?_, rfl⟩
        rw [E.out, ← HS.out]; rfl
      | succ k =>
        have hp := Nat.two_pow_pos k
        have hB : ((2 : Int) ^ (k + 1) / 2) = ((2 ^ k : Nat) : Int) := by rw [Int.pow_succ]; push_cast; omega
        have hlo : r % 2 ^ k = 0 := by
          have := Nat.mod_mod_of_dvd r (Nat.pow_dvd_pow 2 (show k ≤ k + 1 by omega))
          rw [hr] at this; simpa using this.symm
        have hb' : r + 2 ^ k + 2 ^ k ≤ 4294967296 := by rw [Nat.pow_succ] at hb; omega
        have hlo2 : (r + 2 ^ k) % 2 ^ k = 0 := by simp [hlo]
        have hor := i64_or_join r (2 ^ k) (k + 1) (by omega) hr (by rw [Nat.pow_succ]; omega)
        have hhalf : ((2 ^ k : Nat) : Int) / 2 = (2 : Int) ^ k / 2 := by push_cast; rfl
        have hstep : isqS N (k + 1) r = isqS N k (if (r + 2 ^ k) * (r + 2 ^ k) ≤ N then r + 2 ^ k else r) := rfl
        rw [hs] at hstep
        have HB := Lib.hid hB
        have HH := Lib.hid hhalf
        have HST := Lib.hid hstep
        have HL := Lib.hid hlo
        have HL2 := Lib.hid hlo2
        obtain ⟨B, hBB⟩ : ∃ B, 2 ^ k = B := ⟨_, rfl⟩
        rw [hB, hBB]
        clear hs hB hhalf hstep hlo hlo2 hr hb
        rw [hBB] at hor HST HL HL2 HH hb' hp
        rw [show ((r + B : Nat) : Int) = (r : Int) + B from by push_cast; rfl] at hor
        have HBB := Lib.hid hBB
        clear hBB
        have ht : (r : Int) + B ≤ (N : Int) / ((r : Int) + B) ↔ (r + B) * (r + B) ≤ N := by
          rw [Int.le_ediv_iff_mul_le (by omega)]
          have : (((r + B) * (r + B) : Nat) : Int) = ((r : Int) + B) * ((r : Int) + B) := by push_cast; rfl
          omega
        have hq : 0 ≤ (N : Int) / ((r : Int) + B) := Int.ediv_nonneg (by omega) (by omega)
        have hq' : (N : Int) / ((r : Int) + B) ≤ 9223372036854775807 := by have := Int.ediv_le_self (a := (N : Int)) ((r : Int) + B) (by omega); omega
        by_cases c2 : (r + B) * (r + B) ≤ N
        · have ht' := ht.2 c2
          have c2' := HST.out
          rw [if_pos c2] at c2'
          have HST' := Lib.hid c2'
          clear ht c2 c2' HST
          go_wp2
          go_round
          case rel => exact ⟨k, r + B, by omega, by rw [show ((r + B : Nat) : Int) = (r : Int) + B from by push_cast; rfl], by rw [HH.out], by rw [HBB.out]; exact HL2.out, by rw [HBB.out]; exact hb', HST'.out.symm⟩
          case measure => simp [intOf]; omega
        · have ht' : ¬ (r : Int) + B ≤ (N : Int) / ((r : Int) + B) := fun h => c2 (ht.1 h)
          have c2' := HST.out
          rw [if_neg c2] at c2'
          have HST' := Lib.hid c2'
          clear ht c2 c2' HST
          go_wp2
          go_round
          case rel => exact ⟨k, r, by omega, rfl, by rw [HH.out], by rw [HBB.out]; exact HL.out, by rw [HBB.out]; omega, HST'.out.symm⟩
          case measure => simp [intOf]; omega
end Go.Proofs.Ytknagaaahogpkaa
