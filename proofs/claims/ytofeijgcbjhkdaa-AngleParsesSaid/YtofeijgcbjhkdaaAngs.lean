/-
  Own contracts: any string read as digits, by the program and by the document.
-/
import Derived.Test.YtofeijgcbjhkdaaAngd
import Derived.WalkKit
import Derived.ProofKit
import Derived.OpenShut
import Derived.WalkLawsBesides
import Derived.WalkSpells
import Derived.Lib.Hide
import Derived.Deep.DeepCutAuto
import Derived.Deep.CutBlock
import Derived.Deep.QuietTactic
import Derived.BigQuiet
import Derived.Handy
import Derived.StillTailTactics
import Derived.IntWalk
import Derived.LoopN
import Derived.Deep.RegionHeld3
namespace Go.Proofs.Ytofeijgcbjhkdaa
open Go.ChangeShapes Go.WideShapes Go.ChangeAt Go.RowKit
set_option linter.unusedVariables false
set_option linter.unusedSimpArgs false
theorem number_long (s : ByteArray) (hs : 9 < s.size) (hm : s.size ≤ 9223372036854775807) (w : World) : Calls Try.prog 52 #[.string s] w fun e w' => e = .returned (.tuple #[.int .i64 0, .bool false]) ∧ w = w' := by
  go_enter Try.func52, Try.ntmps52
  go_wp2
  go_ret2
  exact ⟨rfl, rfl⟩
set_option maxHeartbeats 1000000 in
theorem number_no (s : ByteArray) (hs : s.size ≤ 9) (hn : ¬ Dig s) (w : World) : Calls Try.prog 52 #[.string s] w fun e w' => e = .returned (.tuple #[.int .i64 0, .bool false]) ∧ w = w' := by
  have HN := Lib.hid hn
  clear hn
  go_enter Try.func52, Try.ntmps52
  go_wp2
  go_loop [4, 11] (fun n i => ∃ (k : Nat) (m : Int), k ≤ s.size ∧ i = .int .i64 k ∧ n = .int .i64 m ∧ Hid (∀ j (h : j < s.size), j < k → 48 ≤ (s[j].toNat : Int) ∧ (s[j].toNat : Int) ≤ 57)) (fun _ i => s.size - (intOf i).toNat)
  case atStart => exact ⟨0, 0, Nat.zero_le _, rfl, rfl, Lib.hid (fun j _ h => absurd h (by omega))⟩
  case round =>
    obtain ⟨k, m, hk, rfl, rfl, hd⟩ := hrel
    by_cases hlt : k < s.size
    · by_cases c : 48 ≤ (s[k].toNat : Int) ∧ (s[k].toNat : Int) ≤ 57
      · obtain ⟨d0, d1⟩ := c
        go_wp2
        exact ⟨⟨k + 1, _, by omega, by go_num, rfl, Lib.hid (fun j h hj => by
          by_cases e : j = k
          · subst e; exact ⟨d0, d1⟩
          · exact hd.out j h (by omega))⟩, by simp [intOf]; omega⟩
      · have c' : (s[k].toNat : Int) < 48 ∨ 57 < (s[k].toNat : Int) := by omega
        clear c
        rcases c' with c | c
        all_goals
          go_wp2
          go_ret2
          exact ⟨rfl, rfl⟩
    · exact absurd (fun j h => hd.out j h (by omega)) HN.out
set_option maxHeartbeats 1000000 in
theorem value_no (s : ByteArray) (hm : s.size ≤ 9223372036854775807) (hn : ¬ Dig s) (w : World) : Calls Try.prog 55 #[.string s] w fun e w' => e = .returned (.tuple #[.int .i64 0, .bool false]) ∧ w = w' := by
  have HN := Lib.hid hn
  clear hn
  go_enter Try.func55, Try.ntmps55
  go_wp2
  go_loop [4, 5] (fun n i => ∃ (k : Nat) (m : Int), k ≤ s.size ∧ i = .int .i64 k ∧ n = .int .i64 m ∧ Hid (∀ j (h : j < s.size), j < k → 48 ≤ (s[j].toNat : Int) ∧ (s[j].toNat : Int) ≤ 57)) (fun _ i => s.size - (intOf i).toNat)
  case atStart => exact ⟨0, 0, Nat.zero_le _, rfl, rfl, Lib.hid (fun j _ h => absurd h (by omega))⟩
  case round =>
    obtain ⟨k, m, hk, rfl, rfl, hd⟩ := hrel
    by_cases hlt : k < s.size
    · by_cases c : 48 ≤ (s[k].toNat : Int) ∧ (s[k].toNat : Int) ≤ 57
      · obtain ⟨d0, d1⟩ := c
        go_wp2
        exact ⟨⟨k + 1, _, by omega, by go_num, rfl, Lib.hid (fun j h hj => by
          by_cases e : j = k
          · subst e; exact ⟨d0, d1⟩
          · exact hd.out j h (by omega))⟩, by simp [intOf]; omega⟩
      · have c' : (s[k].toNat : Int) < 48 ∨ 57 < (s[k].toNat : Int) := by omega
        clear c
        rcases c' with c | c
        all_goals
          go_wp2
          go_ret2
          exact ⟨rfl, rfl⟩
    · exact absurd (fun j h => hd.out j h (by omega)) HN.out
set_option maxHeartbeats 1000000 in
theorem value_any (s : ByteArray) (hm : s.size ≤ 9223372036854775807) (hd : Dig s) (w : World) : Calls Try.prog 55 #[.string s] w fun e w' => ∃ m, e = .returned (.tuple #[.int .i64 m, .bool true]) ∧ w = w' := by
  have HD := Lib.hid hd
  clear hd
  go_enter Try.func55, Try.ntmps55
  go_wp2
  go_loop [4, 5] (fun n i => ∃ (k : Nat) (m : Int), k ≤ s.size ∧ i = .int .i64 k ∧ n = .int .i64 m) (fun _ i => s.size - (intOf i).toNat)
  case atStart => exact ⟨0, 0, Nat.zero_le _, rfl, rfl⟩
  case round =>
    obtain ⟨k, m, hk, rfl, rfl⟩ := hrel
    by_cases hlt : k < s.size
    · obtain ⟨d0, d1⟩ := HD.out k hlt
      go_wp2
      exact ⟨⟨k + 1, _, by omega, by go_num, rfl⟩, by simp [intOf]; omega⟩
    · go_wp2
      go_ret2
      exact ⟨⟨m, rfl⟩, rfl⟩
set_option maxHeartbeats 1000000 in
theorem value_yes (s : ByteArray) (hs : s.size ≤ 9) (hd : Dig s) (w : World) : Calls Try.prog 55 #[.string s] w fun e w' => e = .returned (.tuple #[.int .i64 (numL s.data.toList), .bool true]) ∧ w = w' := by
  have HD := Lib.hid hd
  clear hd
  go_enter Try.func55, Try.ntmps55
  go_wp2
  go_loop [4, 5] (fun n i => ∃ k : Nat, k ≤ s.size ∧ i = .int .i64 k ∧ n = .int .i64 (numL (s.data.toList.take k))) (fun _ i => s.size - (intOf i).toNat)
  case atStart => exact ⟨0, Nat.zero_le _, rfl, rfl⟩
  case round =>
    obtain ⟨k, hk, rfl, rfl⟩ := hrel
    obtain ⟨b0, b1⟩ := numL_bd s HD.out k hk (by omega)
    have b2 := p9 k (by omega)
    by_cases hlt : k < s.size
    · obtain ⟨d0, d1⟩ := HD.out k hlt
      have HS : Hid (numL (s.data.toList.take (k + 1)) = 10 * numL (s.data.toList.take k) + ((s[k].toNat : Int) - 48)) := Lib.hid (by rw [take_snoc s k hlt, numL_snoc])
      obtain ⟨m, hm⟩ : ∃ m, numL (s.data.toList.take k) = m := ⟨_, rfl⟩
      rw [hm] at b0 b1 HS ⊢
      have b3 : m ≤ 999999999 := by omega
      clear b1 b2 hm
      go_wp2
      exact ⟨⟨k + 1, by omega, by go_num, by rw [HS.out]⟩, by simp [intOf]; omega⟩
    · have e : s.data.toList.take k = s.data.toList := by rw [show k = s.size by omega]; exact take_all s
      rw [e]
      go_wp2
      go_ret2
      exact ⟨rfl, rfl⟩
theorem value_v (s : ByteArray) (n : Int) (hs : s.size ≤ 9) (hd : Dig s) (hn : Hid (numL s.data.toList = n)) (w : World) : Calls Try.prog 55 #[.string s] w fun e w' => e = .returned (.tuple #[.int .i64 n, .bool true]) ∧ w = w' := by
  have := value_yes s hs hd w
  rwa [hn.out] at this
theorem pc_ok (s : ByteArray) (n : Int) (hs : s.size = 4) (hd : Dig s) (hn : Hid (numL s.data.toList = n)) (h0 : 0 ≤ n) (h1 : n < 3600) (w : World) : Calls Try.prog 40 #[.string s] w fun e w' => e = .returned (.tuple #[.int .i64 (n * 36000), .int .i64 0]) ∧ w = w' := by
  have HD := Lib.hid hd
  clear hd
  go_enter Try.func40, Try.ntmps40
  go_wp2_with (first | (go_at_call 52; refine (number_v s n (by omega) HD.out hn _).mono ?_; rintro e w' ⟨rfl, rfl⟩))
  go_ret2
  exact ⟨rfl, rfl⟩
theorem pc_rng (s : ByteArray) (n : Int) (hs : s.size = 4) (hd : Dig s) (hn : Hid (numL s.data.toList = n)) (h0 : 3600 ≤ n) (w : World) : Calls Try.prog 40 #[.string s] w fun e w' => e = .returned (.tuple #[.int .i64 0, .int .i64 2]) ∧ w = w' := by
  have HD := Lib.hid hd
  clear hd
  go_enter Try.func40, Try.ntmps40
  go_wp2_with (first | (go_at_call 52; refine (number_v s n (by omega) HD.out hn _).mono ?_; rintro e w' ⟨rfl, rfl⟩))
  go_ret2
  exact ⟨rfl, rfl⟩
theorem pc_nodig (s : ByteArray) (hm : s.size ≤ 9223372036854775807) (hn : ¬ Dig s) (w : World) : Calls Try.prog 40 #[.string s] w fun e w' => e = .returned (.tuple #[.int .i64 0, .int .i64 4]) ∧ w = w' := by
  have HN := Lib.hid hn
  clear hn
  by_cases c : 9 < s.size
  · go_enter Try.func40, Try.ntmps40
    go_wp2_with (first | (go_at_call 52; refine (number_long s c (by omega) _).mono ?_; rintro e w' ⟨rfl, rfl⟩))
    all_goals go_ret2
    all_goals exact ⟨rfl, rfl⟩
  · go_enter Try.func40, Try.ntmps40
    go_wp2_with (first | (go_at_call 52; refine (number_no s (by omega) HN.out _).mono ?_; rintro e w' ⟨rfl, rfl⟩))
    all_goals go_ret2
    all_goals exact ⟨rfl, rfl⟩
theorem pc_size (s : ByteArray) (hm : s.size ≤ 9223372036854775807) (hd : Dig s) (hs : s.size < 4 ∨ 4 < s.size) (w : World) : Calls Try.prog 40 #[.string s] w fun e w' => e = .returned (.tuple #[.int .i64 0, .int .i64 4]) ∧ w = w' := by
  have HD := Lib.hid hd
  clear hd
  have z : (s.size == 4) = false := by simpa using (show ¬ s.size = 4 by omega)
  have z' : (s.size != 4) = true := by simpa using (show ¬ s.size = 4 by omega)
  by_cases c : 9 < s.size
  · go_enter Try.func40, Try.ntmps40
    go_wp2_with (first | (go_at_call 52; refine (number_long s c (by omega) _).mono ?_; rintro e w' ⟨rfl, rfl⟩))
    all_goals go_ret2
    all_goals exact ⟨rfl, rfl⟩
  · go_enter Try.func40, Try.ntmps40
    go_wp2_with (first | (go_at_call 52; refine (number_yes s (by omega) HD.out _).mono ?_; rintro e w' ⟨rfl, rfl⟩))
    all_goals go_ret2
    all_goals exact ⟨rfl, rfl⟩
theorem rpc_ok (s : ByteArray) (n : Int) (hs : s.size = 4) (hd : Dig s) (hn : Hid (numL s.data.toList = n)) (h0 : 0 ≤ n) (h1 : n < 3600) (w : World) : Calls Try.prog 44 #[.string s] w fun e w' => e = .returned (.tuple #[.int .i64 (n * 36000), .int .i64 0]) ∧ w = w' := by
  have HD := Lib.hid hd
  clear hd
  go_enter Try.func44, Try.ntmps44
  go_wp2_with (first | (go_at_call 55; refine (value_v s n (by omega) HD.out hn _).mono ?_; rintro e w' ⟨rfl, rfl⟩))
  go_ret2
  exact ⟨rfl, rfl⟩
theorem rpc_rng (s : ByteArray) (n : Int) (hs : s.size = 4) (hd : Dig s) (hn : Hid (numL s.data.toList = n)) (h0 : 3600 ≤ n) (w : World) : Calls Try.prog 44 #[.string s] w fun e w' => e = .returned (.tuple #[.int .i64 0, .int .i64 2]) ∧ w = w' := by
  have HD := Lib.hid hd
  clear hd
  go_enter Try.func44, Try.ntmps44
  go_wp2_with (first | (go_at_call 55; refine (value_v s n (by omega) HD.out hn _).mono ?_; rintro e w' ⟨rfl, rfl⟩))
  go_ret2
  exact ⟨rfl, rfl⟩
theorem rpc_nodig (s : ByteArray) (hm : s.size ≤ 9223372036854775807) (hn : ¬ Dig s) (w : World) : Calls Try.prog 44 #[.string s] w fun e w' => e = .returned (.tuple #[.int .i64 0, .int .i64 4]) ∧ w = w' := by
  have HN := Lib.hid hn
  clear hn
  go_enter Try.func44, Try.ntmps44
  go_wp2_with (first | (go_at_call 55; refine (value_no s (by omega) HN.out _).mono ?_; rintro e w' ⟨rfl, rfl⟩))
  all_goals go_ret2
  all_goals exact ⟨rfl, rfl⟩
theorem rpc_size (s : ByteArray) (hm : s.size ≤ 9223372036854775807) (hd : Dig s) (hs : s.size < 4 ∨ 4 < s.size) (w : World) : Calls Try.prog 44 #[.string s] w fun e w' => e = .returned (.tuple #[.int .i64 0, .int .i64 4]) ∧ w = w' := by
  have HD := Lib.hid hd
  clear hd
  have z : (s.size == 4) = false := by simpa using (show ¬ s.size = 4 by omega)
  have z' : (s.size != 4) = true := by simpa using (show ¬ s.size = 4 by omega)
  go_enter Try.func44, Try.ntmps44
  go_wp2_with (first | (go_at_call 55; refine (value_any s (by omega) HD.out _).mono ?_; rintro e w' ⟨m, rfl, rfl⟩))
  all_goals go_ret2
  all_goals exact ⟨rfl, rfl⟩
def digB (p : ByteArray) : Bool := p.data.toList.all (fun c => decide (48 ≤ (c.toNat : Int) ∧ (c.toNat : Int) ≤ 57))
theorem digB_iff (p : ByteArray) : digB p = true ↔ Dig p := by
  unfold digB Dig
  rw [List.all_eq_true]
  constructor
  · intro h k hk
    have := h (p[k]) (by show p.data[k] ∈ _; simp)
    simpa using this
  · intro h c hc
    obtain ⟨k, hk, e⟩ := List.getElem_of_mem hc
    have hk' : k < p.size := by simpa using hk
    have := h k hk'
    have e2 : p[k] = c := by rw [← e]; simp [ByteArray.getElem_eq_getElem_data]
    rw [e2] at this
    simpa using this
def vN (p : ByteArray) : Int := if digB p then numL p.data.toList else 0
theorem no_piece (s : ByteArray) (a b n : Nat) (hs : s.size = n) (h0 : a ≤ b) (h1 : b ≤ n) (hn : ¬ Dig s) : digB (s.extract 0 a) = false ∨ digB (s.extract a b) = false ∨ digB (s.extract b n) = false := by
  by_cases c1 : digB (s.extract 0 a) = true
  · by_cases c2 : digB (s.extract a b) = true
    · by_cases c3 : digB (s.extract b n) = true
      · exfalso; apply hn
        rw [digB_iff] at c1 c2 c3
        intro k hk
        have ge : ∀ x y j (h : j < (s.extract x y).size) (h' : x + j < s.size), (s.extract x y)[j] = s[x + j] := fun x y j h h' => ByteArray.getElem_extract ..
        rcases Nat.lt_or_ge k a with g | g
        · have hz : k < (s.extract 0 a).size := by rw [ByteArray.size_extract]; omega
          have := c1 k hz
          rw [ge 0 a k hz (by omega)] at this
          simpa using this
        · rcases Nat.lt_or_ge k b with g2 | g2
          · have hz : k - a < (s.extract a b).size := by rw [ByteArray.size_extract]; omega
            have := c2 (k - a) hz
            rw [ge a b (k - a) hz (by omega)] at this
            simpa [show a + (k - a) = k by omega] using this
          · have hz : k - b < (s.extract b n).size := by rw [ByteArray.size_extract]; omega
            have := c3 (k - b) hz
            rw [ge b n (k - b) hz (by omega)] at this
            simpa [show b + (k - b) = k by omega] using this
      · right; right; simpa using c3
    · right; left; simpa using c2
  · left; simpa using c1
theorem value_b (p : ByteArray) (hs : p.size ≤ 9) (w : World) : Calls Try.prog 55 #[.string p] w fun e w' => e = .returned (.tuple #[.int .i64 (vN p), .bool (digB p)]) ∧ w = w' := by
  unfold vN
  by_cases c : digB p = true
  · rw [if_pos c, c]
    exact value_yes p hs ((digB_iff p).1 c) w
  · rw [if_neg c, show digB p = false by simpa using c]
    exact value_no p (by omega) (fun h => c ((digB_iff p).2 h)) w
theorem psex2_size (s : ByteArray) (hm : s.size ≤ 9223372036854775807) (hs : s.size < 8 ∨ 8 < s.size) (w : World) : Calls Try.prog 53 #[.string s, .int .i64 2] w fun e w' => e = .returned (.tuple #[.int .i64 0, .int .i64 4]) ∧ w = w' := by
  have z : (s.size == 8) = false := by simpa using (show ¬ s.size = 8 by omega)
  have z' : (s.size != 8) = true := by simpa using (show ¬ s.size = 8 by omega)
  go_enter Try.func53, Try.ntmps53
  go_wp2
  all_goals go_ret2
  all_goals exact ⟨rfl, rfl⟩
theorem psex2_no (s : ByteArray) (hs : s.size = 8) (hn : ¬ Dig s) (w : World) : Calls Try.prog 53 #[.string s, .int .i64 2] w fun e w' => e = .returned (.tuple #[.int .i64 0, .int .i64 4]) ∧ w = w' := by
  have HN := Lib.hid hn
  clear hn
  go_enter Try.func53, Try.ntmps53
  go_wp2_with (first | (go_at_call 52; refine (number_no s (by omega) HN.out _).mono ?_; rintro e w' ⟨rfl, rfl⟩))
  all_goals go_ret2
  all_goals exact ⟨rfl, rfl⟩
set_option maxHeartbeats 1000000 in
set_option maxRecDepth 100000 in
theorem psex2_sixty (s : ByteArray) (v d m x c : Int) (hs : s.size = 8) (hd : Dig s) (n0 : Hid (numL s.data.toList = v)) (n1 : Hid (numL (s.extract 0 2).data.toList = d)) (n2 : Hid (numL (s.extract 2 4).data.toList = m)) (n3 : Hid (numL (s.extract 4 6).data.toList = x)) (n4 : Hid (numL (s.extract 6 8).data.toList = c)) (d0 : 0 ≤ d) (d1 : d ≤ 999) (m0 : 0 ≤ m) (m1 : m ≤ 99) (x0 : 0 ≤ x) (x1 : x ≤ 99) (c0 : 0 ≤ c) (c1 : c ≤ 99) (h : 60 ≤ m ∨ 60 ≤ x) (w : World) : Calls Try.prog 53 #[.string s, .int .i64 2] w fun e w' => e = .returned (.tuple #[.int .i64 0, .int .i64 4]) ∧ w = w' := by
  have H := Lib.hid hd
  have Z := Lib.hid hs
  have z1 : s.size ≤ 8 := by omega
  have z2 : 8 ≤ s.size := by omega
  clear hd
  rcases h with h | h
  all_goals
    go_enter Try.func53, Try.ntmps53
    go_wp2_with fail
    refine (number_v s v (by omega) H.out n0 _).mono ?_
    rintro e w' ⟨rfl, rfl⟩
    go_wp2_with fail
    refine (number_v (s.extract 0 2) d (by rw [ByteArray.size_extract]; omega) (H.out.extract _ _) n1 _).mono ?_
    rintro e w' ⟨rfl, rfl⟩
    go_wp2_with fail
    refine (number_v (s.extract 2 4) m (by rw [ByteArray.size_extract]; omega) (H.out.extract _ _) n2 _).mono ?_
    rintro e w' ⟨rfl, rfl⟩
    go_wp2_with fail
    refine (number_v (s.extract 4 6) x (by rw [ByteArray.size_extract]; omega) (H.out.extract _ _) n3 _).mono ?_
    rintro e w' ⟨rfl, rfl⟩
    go_wp2_with fail
    refine (number_v (s.extract 6 8) c (by rw [ByteArray.size_extract]; omega) (H.out.extract _ _) n4 _).mono ?_
    rintro e w' ⟨rfl, rfl⟩
    go_wp2_with fail
    all_goals go_ret2
    all_goals exact ⟨rfl, rfl⟩
set_option maxHeartbeats 1000000 in
set_option maxRecDepth 100000 in
theorem rang2_ok (s : ByteArray) (v d m x c : Int) (hs : s.size = 8) (hd : Dig s) (n0 : Hid (numL s.data.toList = v)) (n1 : Hid (numL (s.extract 0 2).data.toList = d)) (n2 : Hid (numL (s.extract 2 4).data.toList = m)) (n3 : Hid (numL (s.extract 4 6).data.toList = x)) (n4 : Hid (numL (s.extract 6 8).data.toList = c)) (d0 : 0 ≤ d) (d1 : d ≤ 999) (m0 : 0 ≤ m) (m1 : m ≤ 99) (x0 : 0 ≤ x) (x1 : x ≤ 99) (c0 : 0 ≤ c) (c1 : c ≤ 99) (hm : m < 60) (hx : x < 60) (w : World) : Calls Try.prog 56 #[.string s, .int .i64 2] w fun e w' => e = .returned (.tuple #[.int .i64 (d * 360000 + m * 6000 + x * 100 + c), .bool true]) ∧ w = w' := by
  have H := Lib.hid hd
  have Z := Lib.hid hs
  have z1 : s.size ≤ 8 := by omega
  have z2 : 8 ≤ s.size := by omega
  clear hd
  go_enter Try.func56, Try.ntmps56
  go_wp2_with fail
  refine (value_v (s.extract 0 2) d (by rw [ByteArray.size_extract]; omega) (H.out.extract _ _) n1 _).mono ?_
  rintro e w' ⟨rfl, rfl⟩
  go_wp2_with fail
  refine (value_v (s.extract 2 4) m (by rw [ByteArray.size_extract]; omega) (H.out.extract _ _) n2 _).mono ?_
  rintro e w' ⟨rfl, rfl⟩
  go_wp2_with fail
  refine (value_v (s.extract 4 6) x (by rw [ByteArray.size_extract]; omega) (H.out.extract _ _) n3 _).mono ?_
  rintro e w' ⟨rfl, rfl⟩
  go_wp2_with fail
  refine (value_v (s.extract 6 8) c (by rw [ByteArray.size_extract]; omega) (H.out.extract _ _) n4 _).mono ?_
  rintro e w' ⟨rfl, rfl⟩
  go_wp2_with fail
  all_goals go_ret2
  all_goals exact ⟨rfl, rfl⟩
set_option maxHeartbeats 1000000 in
set_option maxRecDepth 100000 in
theorem rang2_sixty (s : ByteArray) (v d m x c : Int) (hs : s.size = 8) (hd : Dig s) (n0 : Hid (numL s.data.toList = v)) (n1 : Hid (numL (s.extract 0 2).data.toList = d)) (n2 : Hid (numL (s.extract 2 4).data.toList = m)) (n3 : Hid (numL (s.extract 4 6).data.toList = x)) (n4 : Hid (numL (s.extract 6 8).data.toList = c)) (d0 : 0 ≤ d) (d1 : d ≤ 999) (m0 : 0 ≤ m) (m1 : m ≤ 99) (x0 : 0 ≤ x) (x1 : x ≤ 99) (c0 : 0 ≤ c) (c1 : c ≤ 99) (h : 60 ≤ m ∨ 60 ≤ x) (w : World) : Calls Try.prog 56 #[.string s, .int .i64 2] w fun e w' => e = .returned (.tuple #[.int .i64 0, .bool false]) ∧ w = w' := by
  have H := Lib.hid hd
  have Z := Lib.hid hs
  have z1 : s.size ≤ 8 := by omega
  have z2 : 8 ≤ s.size := by omega
  clear hd
  rcases h with h | h
  all_goals
    go_enter Try.func56, Try.ntmps56
    go_wp2_with fail
    refine (value_v (s.extract 0 2) d (by rw [ByteArray.size_extract]; omega) (H.out.extract _ _) n1 _).mono ?_
    rintro e w' ⟨rfl, rfl⟩
    go_wp2_with fail
    refine (value_v (s.extract 2 4) m (by rw [ByteArray.size_extract]; omega) (H.out.extract _ _) n2 _).mono ?_
    rintro e w' ⟨rfl, rfl⟩
    go_wp2_with fail
    refine (value_v (s.extract 4 6) x (by rw [ByteArray.size_extract]; omega) (H.out.extract _ _) n3 _).mono ?_
    rintro e w' ⟨rfl, rfl⟩
    go_wp2_with fail
    refine (value_v (s.extract 6 8) c (by rw [ByteArray.size_extract]; omega) (H.out.extract _ _) n4 _).mono ?_
    rintro e w' ⟨rfl, rfl⟩
    go_wp2_with fail
    all_goals go_ret2
    all_goals exact ⟨rfl, rfl⟩
theorem rang2_size (s : ByteArray) (hm : s.size ≤ 9223372036854775807) (hs : s.size < 8 ∨ 8 < s.size) (w : World) : Calls Try.prog 56 #[.string s, .int .i64 2] w fun e w' => e = .returned (.tuple #[.int .i64 0, .bool false]) ∧ w = w' := by
  have z : (s.size == 8) = false := by simpa using (show ¬ s.size = 8 by omega)
  have z' : (s.size != 8) = true := by simpa using (show ¬ s.size = 8 by omega)
  go_enter Try.func56, Try.ntmps56
  go_wp2
  all_goals go_ret2
  all_goals exact ⟨rfl, rfl⟩
theorem two_pieces (s : ByteArray) (a b : Nat) (h0 : a ≤ b) (h1 : b ≤ s.size) (b0 : digB (s.extract 0 a) = true) (b1 : digB (s.extract a b) = true) : digB (s.extract 0 b) = true := by
  by_cases c : digB (s.extract 0 b) = true
  · exact c
  · exfalso
    have hn : ¬ Dig (s.extract 0 b) := fun h => c ((digB_iff _).2 h)
    have hsz : (s.extract 0 b).size = b := by rw [ByteArray.size_extract]; omega
    apply hn
    intro k hk
    rw [digB_iff] at b0 b1
    have ge : ∀ x y j (h : j < (s.extract x y).size) (h' : x + j < s.size), (s.extract x y)[j] = s[x + j] := fun x y j h h' => ByteArray.getElem_extract ..
    rw [ge 0 b k hk (by omega)]
    rcases Nat.lt_or_ge k a with g | g
    · have hz : k < (s.extract 0 a).size := by rw [ByteArray.size_extract]; omega
      have := b0 k hz
      rw [ge 0 a k hz (by omega)] at this
      simpa using this
    · have hz : k - a < (s.extract a b).size := by rw [ByteArray.size_extract]; omega
      have := b1 (k - a) hz
      rw [ge a b (k - a) hz (by omega)] at this
      simpa [show a + (k - a) = k by omega] using this
set_option maxHeartbeats 2000000 in
set_option maxRecDepth 100000 in
theorem rang2_no (s : ByteArray) (hs : s.size = 8) (hn : ¬ Dig s) (w : World) : Calls Try.prog 56 #[.string s, .int .i64 2] w fun e w' => e = .returned (.tuple #[.int .i64 0, .bool false]) ∧ w = w' := by
  have HN := Lib.hid hn
  clear hn
  have z1 : s.size ≤ 8 := by omega
  have z2 : 8 ≤ s.size := by omega
  by_cases c0 : digB (s.extract 0 2) = true
  · have b0 := c0
    by_cases c1 : digB (s.extract 2 4) = true
    · have b1 := c1
      by_cases c2 : digB (s.extract 4 6) = true
      · have b2 := c2
        have b3 : digB (s.extract 6 8) = false := by
          rcases no_piece s 2 4 8 hs (by omega) (by omega) HN.out with g | g | g
          · rw [b0] at g; cases g
          · rw [b1] at g; cases g
          · rcases no_piece s 4 6 8 hs (by omega) (by omega) HN.out with k | k | k
            · exfalso; have := (digB_iff _).1 b0; have t1 := (digB_iff _).1 b1; exact absurd k (by rw [two_pieces s 2 4 (by omega) (by omega) b0 b1]; decide)
            · rw [b2] at k; cases k
            · exact k
        have q0 : digB (s.extract 0 2) = true := b0
        have q1 : digB (s.extract 2 4) = true := b1
        have q2 : digB (s.extract 4 6) = true := b2
        have q3 : digB (s.extract 6 8) = false := b3
        go_enter Try.func56, Try.ntmps56
        go_wp2_with fail
        refine (value_b (s.extract 0 2) (by rw [ByteArray.size_extract]; omega) _).mono ?_
        rintro e w' ⟨rfl, rfl⟩
        go_wp2_with fail
        refine (value_b (s.extract 2 4) (by rw [ByteArray.size_extract]; omega) _).mono ?_
        rintro e w' ⟨rfl, rfl⟩
        go_wp2_with fail
        refine (value_b (s.extract 4 6) (by rw [ByteArray.size_extract]; omega) _).mono ?_
        rintro e w' ⟨rfl, rfl⟩
        go_wp2_with fail
        refine (value_b (s.extract 6 8) (by rw [ByteArray.size_extract]; omega) _).mono ?_
        rintro e w' ⟨rfl, rfl⟩
        go_wp2_with fail
        all_goals go_ret2
        all_goals exact ⟨rfl, rfl⟩
      · have b2 : digB (s.extract 4 6) = false := by simpa using c2
        clear c2
        have q0 : digB (s.extract 0 2) = true := b0
        have q1 : digB (s.extract 2 4) = true := b1
        have q2 : digB (s.extract 4 6) = false := b2
        go_enter Try.func56, Try.ntmps56
        go_wp2_with fail
        refine (value_b (s.extract 0 2) (by rw [ByteArray.size_extract]; omega) _).mono ?_
        rintro e w' ⟨rfl, rfl⟩
        go_wp2_with fail
        refine (value_b (s.extract 2 4) (by rw [ByteArray.size_extract]; omega) _).mono ?_
        rintro e w' ⟨rfl, rfl⟩
        go_wp2_with fail
        refine (value_b (s.extract 4 6) (by rw [ByteArray.size_extract]; omega) _).mono ?_
        rintro e w' ⟨rfl, rfl⟩
        go_wp2_with fail
        refine (value_b (s.extract 6 8) (by rw [ByteArray.size_extract]; omega) _).mono ?_
        rintro e w' ⟨rfl, rfl⟩
        go_wp2_with fail
        all_goals go_ret2
        all_goals exact ⟨rfl, rfl⟩
    · have b1 : digB (s.extract 2 4) = false := by simpa using c1
      clear c1
      have q0 : digB (s.extract 0 2) = true := b0
      have q1 : digB (s.extract 2 4) = false := b1
      go_enter Try.func56, Try.ntmps56
      go_wp2_with fail
      refine (value_b (s.extract 0 2) (by rw [ByteArray.size_extract]; omega) _).mono ?_
      rintro e w' ⟨rfl, rfl⟩
      go_wp2_with fail
      refine (value_b (s.extract 2 4) (by rw [ByteArray.size_extract]; omega) _).mono ?_
      rintro e w' ⟨rfl, rfl⟩
      go_wp2_with fail
      refine (value_b (s.extract 4 6) (by rw [ByteArray.size_extract]; omega) _).mono ?_
      rintro e w' ⟨rfl, rfl⟩
      go_wp2_with fail
      refine (value_b (s.extract 6 8) (by rw [ByteArray.size_extract]; omega) _).mono ?_
      rintro e w' ⟨rfl, rfl⟩
      go_wp2_with fail
      all_goals go_ret2
      all_goals exact ⟨rfl, rfl⟩
  · have b0 : digB (s.extract 0 2) = false := by simpa using c0
    clear c0
    have q0 : digB (s.extract 0 2) = false := b0
    go_enter Try.func56, Try.ntmps56
    go_wp2_with fail
    refine (value_b (s.extract 0 2) (by rw [ByteArray.size_extract]; omega) _).mono ?_
    rintro e w' ⟨rfl, rfl⟩
    go_wp2_with fail
    refine (value_b (s.extract 2 4) (by rw [ByteArray.size_extract]; omega) _).mono ?_
    rintro e w' ⟨rfl, rfl⟩
    go_wp2_with fail
    refine (value_b (s.extract 4 6) (by rw [ByteArray.size_extract]; omega) _).mono ?_
    rintro e w' ⟨rfl, rfl⟩
    go_wp2_with fail
    refine (value_b (s.extract 6 8) (by rw [ByteArray.size_extract]; omega) _).mono ?_
    rintro e w' ⟨rfl, rfl⟩
    go_wp2_with fail
    all_goals go_ret2
    all_goals exact ⟨rfl, rfl⟩
theorem psex3_size (s : ByteArray) (hm : s.size ≤ 9223372036854775807) (hs : s.size < 9 ∨ 9 < s.size) (w : World) : Calls Try.prog 53 #[.string s, .int .i64 3] w fun e w' => e = .returned (.tuple #[.int .i64 0, .int .i64 4]) ∧ w = w' := by
  have z : (s.size == 9) = false := by simpa using (show ¬ s.size = 9 by omega)
  have z' : (s.size != 9) = true := by simpa using (show ¬ s.size = 9 by omega)
  go_enter Try.func53, Try.ntmps53
  go_wp2
  all_goals go_ret2
  all_goals exact ⟨rfl, rfl⟩
theorem psex3_no (s : ByteArray) (hs : s.size = 9) (hn : ¬ Dig s) (w : World) : Calls Try.prog 53 #[.string s, .int .i64 3] w fun e w' => e = .returned (.tuple #[.int .i64 0, .int .i64 4]) ∧ w = w' := by
  have HN := Lib.hid hn
  clear hn
  go_enter Try.func53, Try.ntmps53
  go_wp2_with (first | (go_at_call 52; refine (number_no s (by omega) HN.out _).mono ?_; rintro e w' ⟨rfl, rfl⟩))
  all_goals go_ret2
  all_goals exact ⟨rfl, rfl⟩
set_option maxHeartbeats 1000000 in
set_option maxRecDepth 100000 in
theorem psex3_sixty (s : ByteArray) (v d m x c : Int) (hs : s.size = 9) (hd : Dig s) (n0 : Hid (numL s.data.toList = v)) (n1 : Hid (numL (s.extract 0 3).data.toList = d)) (n2 : Hid (numL (s.extract 3 5).data.toList = m)) (n3 : Hid (numL (s.extract 5 7).data.toList = x)) (n4 : Hid (numL (s.extract 7 9).data.toList = c)) (d0 : 0 ≤ d) (d1 : d ≤ 999) (m0 : 0 ≤ m) (m1 : m ≤ 99) (x0 : 0 ≤ x) (x1 : x ≤ 99) (c0 : 0 ≤ c) (c1 : c ≤ 99) (h : 60 ≤ m ∨ 60 ≤ x) (w : World) : Calls Try.prog 53 #[.string s, .int .i64 3] w fun e w' => e = .returned (.tuple #[.int .i64 0, .int .i64 4]) ∧ w = w' := by
  have H := Lib.hid hd
  have Z := Lib.hid hs
  have z1 : s.size ≤ 9 := by omega
  have z2 : 9 ≤ s.size := by omega
  clear hd
  rcases h with h | h
  all_goals
    go_enter Try.func53, Try.ntmps53
    go_wp2_with fail
    refine (number_v s v (by omega) H.out n0 _).mono ?_
    rintro e w' ⟨rfl, rfl⟩
    go_wp2_with fail
    refine (number_v (s.extract 0 3) d (by rw [ByteArray.size_extract]; omega) (H.out.extract _ _) n1 _).mono ?_
    rintro e w' ⟨rfl, rfl⟩
    go_wp2_with fail
    refine (number_v (s.extract 3 5) m (by rw [ByteArray.size_extract]; omega) (H.out.extract _ _) n2 _).mono ?_
    rintro e w' ⟨rfl, rfl⟩
    go_wp2_with fail
    refine (number_v (s.extract 5 7) x (by rw [ByteArray.size_extract]; omega) (H.out.extract _ _) n3 _).mono ?_
    rintro e w' ⟨rfl, rfl⟩
    go_wp2_with fail
    refine (number_v (s.extract 7 9) c (by rw [ByteArray.size_extract]; omega) (H.out.extract _ _) n4 _).mono ?_
    rintro e w' ⟨rfl, rfl⟩
    go_wp2_with fail
    all_goals go_ret2
    all_goals exact ⟨rfl, rfl⟩
set_option maxHeartbeats 1000000 in
set_option maxRecDepth 100000 in
theorem rang3_ok (s : ByteArray) (v d m x c : Int) (hs : s.size = 9) (hd : Dig s) (n0 : Hid (numL s.data.toList = v)) (n1 : Hid (numL (s.extract 0 3).data.toList = d)) (n2 : Hid (numL (s.extract 3 5).data.toList = m)) (n3 : Hid (numL (s.extract 5 7).data.toList = x)) (n4 : Hid (numL (s.extract 7 9).data.toList = c)) (d0 : 0 ≤ d) (d1 : d ≤ 999) (m0 : 0 ≤ m) (m1 : m ≤ 99) (x0 : 0 ≤ x) (x1 : x ≤ 99) (c0 : 0 ≤ c) (c1 : c ≤ 99) (hm : m < 60) (hx : x < 60) (w : World) : Calls Try.prog 56 #[.string s, .int .i64 3] w fun e w' => e = .returned (.tuple #[.int .i64 (d * 360000 + m * 6000 + x * 100 + c), .bool true]) ∧ w = w' := by
  have H := Lib.hid hd
  have Z := Lib.hid hs
  have z1 : s.size ≤ 9 := by omega
  have z2 : 9 ≤ s.size := by omega
  clear hd
  go_enter Try.func56, Try.ntmps56
  go_wp2_with fail
  refine (value_v (s.extract 0 3) d (by rw [ByteArray.size_extract]; omega) (H.out.extract _ _) n1 _).mono ?_
  rintro e w' ⟨rfl, rfl⟩
  go_wp2_with fail
  refine (value_v (s.extract 3 5) m (by rw [ByteArray.size_extract]; omega) (H.out.extract _ _) n2 _).mono ?_
  rintro e w' ⟨rfl, rfl⟩
  go_wp2_with fail
  refine (value_v (s.extract 5 7) x (by rw [ByteArray.size_extract]; omega) (H.out.extract _ _) n3 _).mono ?_
  rintro e w' ⟨rfl, rfl⟩
  go_wp2_with fail
  refine (value_v (s.extract 7 9) c (by rw [ByteArray.size_extract]; omega) (H.out.extract _ _) n4 _).mono ?_
  rintro e w' ⟨rfl, rfl⟩
  go_wp2_with fail
  all_goals go_ret2
  all_goals exact ⟨rfl, rfl⟩
set_option maxHeartbeats 1000000 in
set_option maxRecDepth 100000 in
theorem rang3_sixty (s : ByteArray) (v d m x c : Int) (hs : s.size = 9) (hd : Dig s) (n0 : Hid (numL s.data.toList = v)) (n1 : Hid (numL (s.extract 0 3).data.toList = d)) (n2 : Hid (numL (s.extract 3 5).data.toList = m)) (n3 : Hid (numL (s.extract 5 7).data.toList = x)) (n4 : Hid (numL (s.extract 7 9).data.toList = c)) (d0 : 0 ≤ d) (d1 : d ≤ 999) (m0 : 0 ≤ m) (m1 : m ≤ 99) (x0 : 0 ≤ x) (x1 : x ≤ 99) (c0 : 0 ≤ c) (c1 : c ≤ 99) (h : 60 ≤ m ∨ 60 ≤ x) (w : World) : Calls Try.prog 56 #[.string s, .int .i64 3] w fun e w' => e = .returned (.tuple #[.int .i64 0, .bool false]) ∧ w = w' := by
  have H := Lib.hid hd
  have Z := Lib.hid hs
  have z1 : s.size ≤ 9 := by omega
  have z2 : 9 ≤ s.size := by omega
  clear hd
  rcases h with h | h
  all_goals
    go_enter Try.func56, Try.ntmps56
    go_wp2_with fail
    refine (value_v (s.extract 0 3) d (by rw [ByteArray.size_extract]; omega) (H.out.extract _ _) n1 _).mono ?_
    rintro e w' ⟨rfl, rfl⟩
    go_wp2_with fail
    refine (value_v (s.extract 3 5) m (by rw [ByteArray.size_extract]; omega) (H.out.extract _ _) n2 _).mono ?_
    rintro e w' ⟨rfl, rfl⟩
    go_wp2_with fail
    refine (value_v (s.extract 5 7) x (by rw [ByteArray.size_extract]; omega) (H.out.extract _ _) n3 _).mono ?_
    rintro e w' ⟨rfl, rfl⟩
    go_wp2_with fail
    refine (value_v (s.extract 7 9) c (by rw [ByteArray.size_extract]; omega) (H.out.extract _ _) n4 _).mono ?_
    rintro e w' ⟨rfl, rfl⟩
    go_wp2_with fail
    all_goals go_ret2
    all_goals exact ⟨rfl, rfl⟩
theorem rang3_size (s : ByteArray) (hm : s.size ≤ 9223372036854775807) (hs : s.size < 9 ∨ 9 < s.size) (w : World) : Calls Try.prog 56 #[.string s, .int .i64 3] w fun e w' => e = .returned (.tuple #[.int .i64 0, .bool false]) ∧ w = w' := by
  have z : (s.size == 9) = false := by simpa using (show ¬ s.size = 9 by omega)
  have z' : (s.size != 9) = true := by simpa using (show ¬ s.size = 9 by omega)
  go_enter Try.func56, Try.ntmps56
  go_wp2
  all_goals go_ret2
  all_goals exact ⟨rfl, rfl⟩
set_option maxHeartbeats 2000000 in
set_option maxRecDepth 100000 in
theorem rang3_no (s : ByteArray) (hs : s.size = 9) (hn : ¬ Dig s) (w : World) : Calls Try.prog 56 #[.string s, .int .i64 3] w fun e w' => e = .returned (.tuple #[.int .i64 0, .bool false]) ∧ w = w' := by
  have HN := Lib.hid hn
  clear hn
  have z1 : s.size ≤ 9 := by omega
  have z2 : 9 ≤ s.size := by omega
  by_cases c0 : digB (s.extract 0 3) = true
  · have b0 := c0
    by_cases c1 : digB (s.extract 3 5) = true
    · have b1 := c1
      by_cases c2 : digB (s.extract 5 7) = true
      · have b2 := c2
        have b3 : digB (s.extract 7 9) = false := by
          rcases no_piece s 3 5 9 hs (by omega) (by omega) HN.out with g | g | g
          · rw [b0] at g; cases g
          · rw [b1] at g; cases g
          · rcases no_piece s 5 7 9 hs (by omega) (by omega) HN.out with k | k | k
            · exfalso; have := (digB_iff _).1 b0; have t1 := (digB_iff _).1 b1; exact absurd k (by rw [two_pieces s 3 5 (by omega) (by omega) b0 b1]; decide)
            · rw [b2] at k; cases k
            · exact k
        have q0 : digB (s.extract 0 3) = true := b0
        have q1 : digB (s.extract 3 5) = true := b1
        have q2 : digB (s.extract 5 7) = true := b2
        have q3 : digB (s.extract 7 9) = false := b3
        go_enter Try.func56, Try.ntmps56
        go_wp2_with fail
        refine (value_b (s.extract 0 3) (by rw [ByteArray.size_extract]; omega) _).mono ?_
        rintro e w' ⟨rfl, rfl⟩
        go_wp2_with fail
        refine (value_b (s.extract 3 5) (by rw [ByteArray.size_extract]; omega) _).mono ?_
        rintro e w' ⟨rfl, rfl⟩
        go_wp2_with fail
        refine (value_b (s.extract 5 7) (by rw [ByteArray.size_extract]; omega) _).mono ?_
        rintro e w' ⟨rfl, rfl⟩
        go_wp2_with fail
        refine (value_b (s.extract 7 9) (by rw [ByteArray.size_extract]; omega) _).mono ?_
        rintro e w' ⟨rfl, rfl⟩
        go_wp2_with fail
        all_goals go_ret2
        all_goals exact ⟨rfl, rfl⟩
      · have b2 : digB (s.extract 5 7) = false := by simpa using c2
        clear c2
        have q0 : digB (s.extract 0 3) = true := b0
        have q1 : digB (s.extract 3 5) = true := b1
        have q2 : digB (s.extract 5 7) = false := b2
        go_enter Try.func56, Try.ntmps56
        go_wp2_with fail
        refine (value_b (s.extract 0 3) (by rw [ByteArray.size_extract]; omega) _).mono ?_
        rintro e w' ⟨rfl, rfl⟩
        go_wp2_with fail
        refine (value_b (s.extract 3 5) (by rw [ByteArray.size_extract]; omega) _).mono ?_
        rintro e w' ⟨rfl, rfl⟩
        go_wp2_with fail
        refine (value_b (s.extract 5 7) (by rw [ByteArray.size_extract]; omega) _).mono ?_
        rintro e w' ⟨rfl, rfl⟩
        go_wp2_with fail
        refine (value_b (s.extract 7 9) (by rw [ByteArray.size_extract]; omega) _).mono ?_
        rintro e w' ⟨rfl, rfl⟩
        go_wp2_with fail
        all_goals go_ret2
        all_goals exact ⟨rfl, rfl⟩
    · have b1 : digB (s.extract 3 5) = false := by simpa using c1
      clear c1
      have q0 : digB (s.extract 0 3) = true := b0
      have q1 : digB (s.extract 3 5) = false := b1
      go_enter Try.func56, Try.ntmps56
      go_wp2_with fail
      refine (value_b (s.extract 0 3) (by rw [ByteArray.size_extract]; omega) _).mono ?_
      rintro e w' ⟨rfl, rfl⟩
      go_wp2_with fail
      refine (value_b (s.extract 3 5) (by rw [ByteArray.size_extract]; omega) _).mono ?_
      rintro e w' ⟨rfl, rfl⟩
      go_wp2_with fail
      refine (value_b (s.extract 5 7) (by rw [ByteArray.size_extract]; omega) _).mono ?_
      rintro e w' ⟨rfl, rfl⟩
      go_wp2_with fail
      refine (value_b (s.extract 7 9) (by rw [ByteArray.size_extract]; omega) _).mono ?_
      rintro e w' ⟨rfl, rfl⟩
      go_wp2_with fail
      all_goals go_ret2
      all_goals exact ⟨rfl, rfl⟩
  · have b0 : digB (s.extract 0 3) = false := by simpa using c0
    clear c0
    have q0 : digB (s.extract 0 3) = false := b0
    go_enter Try.func56, Try.ntmps56
    go_wp2_with fail
    refine (value_b (s.extract 0 3) (by rw [ByteArray.size_extract]; omega) _).mono ?_
    rintro e w' ⟨rfl, rfl⟩
    go_wp2_with fail
    refine (value_b (s.extract 3 5) (by rw [ByteArray.size_extract]; omega) _).mono ?_
    rintro e w' ⟨rfl, rfl⟩
    go_wp2_with fail
    refine (value_b (s.extract 5 7) (by rw [ByteArray.size_extract]; omega) _).mono ?_
    rintro e w' ⟨rfl, rfl⟩
    go_wp2_with fail
    refine (value_b (s.extract 7 9) (by rw [ByteArray.size_extract]; omega) _).mono ?_
    rintro e w' ⟨rfl, rfl⟩
    go_wp2_with fail
    all_goals go_ret2
    all_goals exact ⟨rfl, rfl⟩
end Go.Proofs.Ytofeijgcbjhkdaa
