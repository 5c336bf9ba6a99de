/-
  Own contracts: package calendar and the document's answers of layer 5: strings read as dates and times of day.
-/
import Derived.Test.YtkmpbkojdkoghaaDoorCalb
import Derived.Test.YtkmpbkojdkoghaaDoorStr
import Derived.WalkKit
import Derived.ProofKit
import Derived.OpenShut
import Derived.WalkLawsBesides
import Derived.WalkSpells
import Derived.Lib.Hide
import Derived.Deep.DeepCutAuto
import Derived.Deep.CutBlock
import Derived.Deep.QuietTactic
import Derived.BigQuiet
import Derived.Handy
import Derived.StillTailTactics
import Derived.IntWalk
import Derived.LoopN
import Derived.Deep.RegionHeld3
namespace Go.Proofs.YtkmpbkojdkoghaaDoor
open Go.ChangeShapes Go.WideShapes Go.ChangeAt Go.RowKit
set_option linter.unusedVariables false
set_option linter.unusedSimpArgs false
set_option maxHeartbeats 1000000 in
theorem number_yes (s : ByteArray) (hs : s.size ≤ 4) (hd : Dig s) (w : World) : Calls Tryd.prog 51 #[.string s] w fun e w' => e = .returned (.tuple #[.int .i64 (numL s.data.toList), .bool true]) ∧ w = w' := by
  have HD := Lib.hid hd
  clear hd
  go_enter Tryd.func51, Tryd.ntmps51
  go_wp2

  go_loop [4, 8] (fun n i => ∃ k : Nat, k ≤ s.size ∧ i = .int .i64 k ∧ n = .int .i64 (numL (s.data.toList.take k))) (fun _ i => s.size - (intOf i).toNat)
  case atStart => exact ⟨0, Nat.zero_le _, rfl, rfl⟩
  case round =>
    obtain ⟨k, hk, rfl, rfl⟩ := hrel
    obtain ⟨b0, b1⟩ := numL_bd s HD.out k hk (by omega)
    have b2 := p9 k (by omega)
    by_cases hlt : k < s.size
    · obtain ⟨d0, d1⟩ := HD.out k hlt
      have HS : Hid (numL (s.data.toList.take (k + 1)) = 10 * numL (s.data.toList.take k) + ((s[k].toNat : Int) - 48)) := Lib.hid (by rw [take_snoc s k hlt, numL_snoc])
      obtain ⟨m, hm⟩ : ∃ m, numL (s.data.toList.take k) = m := ⟨_, rfl⟩
      rw [hm] at b0 b1 HS ⊢
      have b3 : m ≤ 999999999 := by omega
      clear b1 b2 hm
      go_wp2
      exact ⟨⟨k + 1, by omega, by go_num, by rw [HS.out]⟩, by simp [intOf]; omega⟩
    · have e : s.data.toList.take k = s.data.toList := by rw [show k = s.size by omega]; exact take_all s
      rw [e]
      go_wp2
      go_ret2
      exact ⟨rfl, rfl⟩
set_option maxHeartbeats 1000000 in
theorem number_no (s : ByteArray) (hs : s.size ≤ 4) (hn : ¬ Dig s) (w : World) : Calls Tryd.prog 51 #[.string s] w fun e w' => e = .returned (.tuple #[.int .i64 0, .bool false]) ∧ w = w' := by
  have HN := Lib.hid hn
  clear hn
  go_enter Tryd.func51, Tryd.ntmps51
  go_wp2
  go_loop [4, 8] (fun n i => ∃ (k : Nat) (m : Int), k ≤ s.size ∧ i = .int .i64 k ∧ n = .int .i64 m ∧ Hid (∀ j (h : j < s.size), j < k → 48 ≤ (s[j].toNat : Int) ∧ (s[j].toNat : Int) ≤ 57)) (fun _ i => s.size - (intOf i).toNat)
  case atStart => exact ⟨0, 0, Nat.zero_le _, rfl, rfl, Lib.hid (fun j _ h => absurd h (by omega))⟩
  case round =>
    obtain ⟨k, m, hk, rfl, rfl, hd⟩ := hrel
    by_cases hlt : k < s.size
    · by_cases c : 48 ≤ (s[k].toNat : Int) ∧ (s[k].toNat : Int) ≤ 57
      · obtain ⟨d0, d1⟩ := c
        go_wp2
        exact ⟨⟨k + 1, _, by omega, by go_num, rfl, Lib.hid (fun j h hj => by
          by_cases e : j = k
          · subst e; exact ⟨d0, d1⟩
          · exact hd.out j h (by omega))⟩, by simp [intOf]; omega⟩
      · have c' : (s[k].toNat : Int) < 48 ∨ 57 < (s[k].toNat : Int) := by omega
        clear c
        rcases c' with c | c
        all_goals
          go_wp2
          go_ret2
          exact ⟨rfl, rfl⟩
    · exact absurd (fun j h => hd.out j h (by omega)) HN.out
set_option maxHeartbeats 1000000 in
theorem rnumber_yes (s : ByteArray) (hs : s.size ≤ 9) (hd : Dig s) (w : World) : Calls Tryd.prog 52 #[.string s] w fun e w' => e = .returned (.int .i64 (numL s.data.toList)) ∧ w = w' := by
  have HD := Lib.hid hd
  clear hd
  go_enter Tryd.func52, Tryd.ntmps52
  go_wp2

  go_loop [3, 4] (fun n i => ∃ k : Nat, k ≤ s.size ∧ i = .int .i64 k ∧ n = .int .i64 (numL (s.data.toList.take k))) (fun _ i => s.size - (intOf i).toNat)
  case atStart => exact ⟨0, Nat.zero_le _, rfl, rfl⟩
  case round =>
    obtain ⟨k, hk, rfl, rfl⟩ := hrel
    obtain ⟨b0, b1⟩ := numL_bd s HD.out k hk (by omega)
    have b2 := p9 k (by omega)
    by_cases hlt : k < s.size
    · obtain ⟨d0, d1⟩ := HD.out k hlt
      have HS : Hid (numL (s.data.toList.take (k + 1)) = 10 * numL (s.data.toList.take k) + ((s[k].toNat : Int) - 48)) := Lib.hid (by rw [take_snoc s k hlt, numL_snoc])
      obtain ⟨m, hm⟩ : ∃ m, numL (s.data.toList.take k) = m := ⟨_, rfl⟩
      rw [hm] at b0 b1 HS ⊢
      have b3 : m ≤ 999999999 := by omega
      clear b1 b2 hm
      go_wp2
      exact ⟨⟨k + 1, by omega, by go_num, by rw [HS.out]⟩, by simp [intOf]; omega⟩
    · have e : s.data.toList.take k = s.data.toList := by rw [show k = s.size by omega]; exact take_all s
      rw [e]
      go_wp2
      go_ret
      exact ⟨rfl, rfl⟩
set_option maxHeartbeats 1000000 in
theorem rnumber_no (s : ByteArray) (hs : s.size ≤ 9) (hn : ¬ Dig s) (w : World) : Calls Tryd.prog 52 #[.string s] w fun e w' => e = .returned (.int .i64 (-1)) ∧ w = w' := by
  have HN := Lib.hid hn
  clear hn
  go_enter Tryd.func52, Tryd.ntmps52
  go_wp2
  go_loop [3, 4] (fun n i => ∃ (k : Nat) (m : Int), k ≤ s.size ∧ i = .int .i64 k ∧ n = .int .i64 m ∧ Hid (∀ j (h : j < s.size), j < k → 48 ≤ (s[j].toNat : Int) ∧ (s[j].toNat : Int) ≤ 57)) (fun _ i => s.size - (intOf i).toNat)
  case atStart => exact ⟨0, 0, Nat.zero_le _, rfl, rfl, Lib.hid (fun j _ h => absurd h (by omega))⟩
  case round =>
    obtain ⟨k, m, hk, rfl, rfl, hd⟩ := hrel
    by_cases hlt : k < s.size
    · by_cases c : 48 ≤ (s[k].toNat : Int) ∧ (s[k].toNat : Int) ≤ 57
      · obtain ⟨d0, d1⟩ := c
        go_wp2
        exact ⟨⟨k + 1, _, by omega, by go_num, rfl, Lib.hid (fun j h hj => by
          by_cases e : j = k
          · subst e; exact ⟨d0, d1⟩
          · exact hd.out j h (by omega))⟩, by simp [intOf]; omega⟩
      · have c' : (s[k].toNat : Int) < 48 ∨ 57 < (s[k].toNat : Int) := by omega
        clear c
        rcases c' with c | c
        all_goals
          go_wp2
          go_ret
          exact ⟨rfl, rfl⟩
    · exact absurd (fun j h => hd.out j h (by omega)) HN.out
def rN (p : ByteArray) : Int := if digB p then numL p.data.toList else -1
theorem number_b (p : ByteArray) (hs : p.size ≤ 4) (w : World) : Calls Tryd.prog 51 #[.string p] w fun e w' => e = .returned (.tuple #[.int .i64 (vN p), .bool (digB p)]) ∧ w = w' := by
  unfold vN
  by_cases c : digB p = true
  · rw [if_pos c, c]
    exact number_yes p hs ((digB_iff p).1 c) w
  · rw [if_neg c, show digB p = false by simpa using c]
    exact number_no p hs (fun h => c ((digB_iff p).2 h)) w
theorem rnumber_b (p : ByteArray) (hs : p.size ≤ 9) (w : World) : Calls Tryd.prog 52 #[.string p] w fun e w' => e = .returned (.int .i64 (rN p)) ∧ w = w' := by
  unfold rN
  by_cases c : digB p = true
  · rw [if_pos c]
    exact rnumber_yes p hs ((digB_iff p).1 c) w
  · rw [if_neg c]
    exact rnumber_no p hs (fun h => c ((digB_iff p).2 h)) w
end Go.Proofs.YtkmpbkojdkoghaaDoor
