/-
  Own contracts: the document's square roots of layer 1.
-/
import Derived.Test.YtfpgdicacjkfoaaGreatDoorRefb
import Derived.Test.YtfpgdicacjkfoaaGreatDoorBase
import Derived.WalkKit
import Derived.ProofKit
import Derived.OpenShut
import Derived.WalkLawsBesides
import Derived.WalkSpells
import Derived.Lib.Hide
import Derived.Deep.DeepCutAuto
import Derived.Deep.CutBlock
import Derived.Deep.QuietTactic
import Derived.BigQuiet
import Derived.Handy
import Derived.StillTailTactics
import Derived.IntWalk
import Derived.LoopN
import Derived.Deep.RegionHeld3
namespace Go.Proofs.YtfpgdicacjkfoaaGreatDoor
open Go.ChangeShapes Go.WideShapes Go.ChangeAt Go.RowKit
set_option linter.unusedVariables false
set_option linter.unusedSimpArgs false

theorem ref_sqrt_w (n : Int) (n0 : -9223372036854775808 ≤ n) (n1 : n ≤ 9223372036854775807) (w : World) :
    Calls Tryz.prog 44 #[.int .i64 n] w fun e w' => e = .returned (.int .i64 (isq n)) ∧ w = w' := by
  by_cases c1 : n < 0
  · have e : isq n = 0 := by unfold isq; rw [if_pos c1]
    go_enter Tryz.func44, Tryz.ntmps44
    go_wp2
    go_ret
    refine ⟨?_, rfl⟩
    (try rw [e]); rfl
  · have e : isq n = isqS n.toNat 32 0 := by unfold isq; rw [if_neg c1]
    obtain ⟨N, rfl⟩ := Int.eq_ofNat_of_zero_le (show 0 ≤ n by omega)
    rw [Int.toNat_natCast] at e
    have E := Lib.hid e
    clear e
    go_enter Tryz.func44, Tryz.ntmps44
    go_wp2_with fail
    go_loop [3, 4] (fun t b => ∃ k r : Nat, k ≤ 32 ∧ t = .int .u64 (r : Int) ∧ b = .int .u64 ((2 : Int) ^ k / 2) ∧ r + 2 ^ k ≤ 4294967296 ∧ isqS N k r = isqS N 32 0) (fun _ b => (intOf b).toNat)
    case atStart => exact ⟨32, 0, by omega, rfl, rfl, by decide, rfl⟩
    case round =>
      obtain ⟨k, r, hk, rfl, rfl, hb, hs⟩ := hrel
      cases k with
      | zero =>
        have hz : ((2 : Int) ^ 0 / 2) = 0 := rfl
        have HS := Lib.hid hs
        have hr2 : r < 4294967296 := by simp at hb; omega
        clear hs hb
        go_wp2
        go_ret
        refine ⟨?_, rfl⟩
        rw [E.out, ← HS.out]; rfl
      | succ k =>
        have hp := Nat.two_pow_pos k
        have hB : ((2 : Int) ^ (k + 1) / 2) = ((2 ^ k : Nat) : Int) := by rw [Int.pow_succ]; push_cast; omega
        have hb' : r + 2 ^ k + 2 ^ k ≤ 4294967296 := by rw [Nat.pow_succ] at hb; omega
        have hhalf : ((2 ^ k : Nat) : Int) / 2 = (2 : Int) ^ k / 2 := by push_cast; rfl
        have hstep : isqS N (k + 1) r = isqS N k (if (r + 2 ^ k) * (r + 2 ^ k) ≤ N then r + 2 ^ k else r) := rfl
        rw [hs] at hstep
        have HB := Lib.hid hB
        have HH := Lib.hid hhalf
        have HST := Lib.hid hstep
        obtain ⟨B, hBB⟩ : ∃ B, 2 ^ k = B := ⟨_, rfl⟩
        rw [hB, hBB]
        clear hs hB hhalf hstep hb
        rw [hBB] at HST HH hb' hp
        have HBB := Lib.hid hBB
        clear hBB
        obtain ⟨S, hS⟩ : ∃ S, (r + B) * (r + B) = S := ⟨_, rfl⟩
        have hSl : S ≤ 18446744073709551615 := by
          have := Nat.mul_le_mul (show r + B ≤ 4294967295 by omega) (show r + B ≤ 4294967295 by omega)
          omega
        have hmul : IntKind.u64.wrap (((r : Int) + B) * ((r : Int) + B)) = (S : Int) := by
          have : (((r + B) * (r + B) : Nat) : Int) = ((r : Int) + B) * ((r : Int) + B) := by push_cast; rfl
          rw [← this, hS]; exact IntWalk.u64_in _ (by omega)
        rw [hS] at HST
        clear hS
        by_cases c2 : S ≤ N
        · have c2' := HST.out
          rw [if_pos c2] at c2'
          have HST' := Lib.hid c2'
          clear c2' HST
          go_wp2
          go_round
          case rel => exact ⟨k, r + B, by omega, by rw [show ((r + B : Nat) : Int) = (r : Int) + B from by push_cast; rfl], by rw [HH.out], by rw [HBB.out]; exact hb', HST'.out.symm⟩
          case measure => simp [intOf]; omega
        · have c2' := HST.out
          rw [if_neg c2] at c2'
          have HST' := Lib.hid c2'
          clear c2' HST
          go_wp2
          go_round
          case rel => exact ⟨k, r, by omega, rfl, by rw [HH.out], by rw [HBB.out]; omega, HST'.out.symm⟩
          case measure => simp [intOf]; omega
end Go.Proofs.YtfpgdicacjkfoaaGreatDoor
