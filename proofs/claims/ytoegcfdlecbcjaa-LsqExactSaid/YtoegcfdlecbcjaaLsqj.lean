/-
  Own contracts: the laws of layer 42: their arguments.
-/
import Derived.Test.YtoegcfdlecbcjaaLsqd
import Derived.Test.YtoegcfdlecbcjaaSlice
import Derived.WalkKit
import Derived.ProofKit
import Derived.OpenShut
import Derived.WalkLawsBesides
import Derived.WalkSpells
import Derived.Lib.Hide
import Derived.Deep.DeepCutAuto
import Derived.Deep.CutBlock
import Derived.Deep.QuietTactic
import Derived.BigQuiet
import Derived.Handy
import Derived.StillTailTactics
import Derived.IntWalk
import Derived.LoopN
import Derived.Deep.RegionHeld3
namespace Go.Proofs.Ytoegcfdlecbcjaa
open Go.ChangeShapes Go.WideShapes Go.ChangeAt Go.RowKit
set_option linter.unusedVariables false
set_option linter.unusedSimpArgs false
set_option maxHeartbeats 2000000 in
set_option maxRecDepth 100000 in
theorem cut_w (p : Option Addr) (n c m : Nat) (hl : n ≤ c) (hc : c ≤ maxLen) (h : (n ≤ 20 ∧ m = n) ∨ (20 < n ∧ m = 20)) (w : World) : Calls Try.prog 13 #[.slice p n c] w fun e w' => e = .returned (.slice p m c) ∧ w = w' := by
  unfold maxLen at hc
  rcases h with ⟨h, rfl⟩ | ⟨h, rfl⟩
  · go_enter Try.func13, Try.ntmps13
    go_wp2
    all_goals (go_ret; exact ⟨rfl, rfl⟩)
  · go_enter Try.func13, Try.ntmps13
    go_wp2
    all_goals (go_ret; exact ⟨rfl, rfl⟩)
theorem cutm (n : Nat) : ∃ m, m ≤ n ∧ m ≤ 20 ∧ ((n ≤ 20 ∧ m = n) ∨ (20 < n ∧ m = 20)) := by
  by_cases h : n ≤ 20
  · exact ⟨n, by omega, by omega, Or.inl ⟨h, rfl⟩⟩
  · exact ⟨20, by omega, by omega, Or.inr ⟨by omega, rfl⟩⟩
theorem sl_of (p0 : Option Addr) (n0 c0 b0 o0 : Nat) (F0_0 F0_1 F0_2 F0_3 F0_4 F0_5 : Nat → Int) (w : World) (hp0 : 0 < n0 → p0 = some ⟨b0, o0, none⟩ ∧ b0 < w.heap.size) (hc0_0 : ∀ i, i < n0 → w.cell? ⟨b0, o0 + (i * 6 + 0), none⟩ = some (.int .i64 (F0_0 i))) (hc0_1 : ∀ i, i < n0 → w.cell? ⟨b0, o0 + (i * 6 + 1), none⟩ = some (.int .i64 (F0_1 i))) (hc0_2 : ∀ i, i < n0 → w.cell? ⟨b0, o0 + (i * 6 + 2), none⟩ = some (.int .i64 (F0_2 i))) (hc0_3 : ∀ i, i < n0 → w.cell? ⟨b0, o0 + (i * 6 + 3), none⟩ = some (.int .i64 (F0_3 i))) (hc0_4 : ∀ i, i < n0 → w.cell? ⟨b0, o0 + (i * 6 + 4), none⟩ = some (.int .i64 (F0_4 i))) (hc0_5 : ∀ i, i < n0 → w.cell? ⟨b0, o0 + (i * 6 + 5), none⟩ = some (.int .i64 (F0_5 i))) : SlM w p0 n0 b0 o0 ⟨F0_0, F0_1, F0_2, F0_3, F0_4, F0_5⟩ :=
  ⟨hp0, fun i hi => by have := hc0_0 i hi; simpa [Nat.add_assoc] using this, fun i hi => by have := hc0_1 i hi; simpa [Nat.add_assoc] using this, fun i hi => by have := hc0_2 i hi; simpa [Nat.add_assoc] using this, fun i hi => by have := hc0_3 i hi; simpa [Nat.add_assoc] using this, fun i hi => by have := hc0_4 i hi; simpa [Nat.add_assoc] using this, fun i hi => by have := hc0_5 i hi; simpa [Nat.add_assoc] using this⟩
theorem SlM.le {w : World} {p : Option Addr} {n m b o : Nat} {M : Ms} (h : SlM w p n b o M) (hm : m ≤ n) : SlM w p m b o M :=
  ⟨fun h0 => h.hp (by omega), fun i hi => h.cs i (by omega), fun i hi => h.ca i (by omega), fun i hi => h.cb i (by omega), fun i hi => h.cz i (by omega), fun i hi => h.ce i (by omega), fun i hi => h.cu i (by omega)⟩
end Go.Proofs.Ytoegcfdlecbcjaa
