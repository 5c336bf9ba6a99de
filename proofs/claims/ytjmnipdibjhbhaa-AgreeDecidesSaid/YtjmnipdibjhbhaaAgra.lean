/-
  Own contracts: package agree: the role of a cycle; the document's answer.
-/
import Derived.Test.YtjmnipdibjhbhaaRows
import Derived.Test.YtjmnipdibjhbhaaBase
import Derived.Test.YtjmnipdibjhbhaaNum
import Derived.WalkKit
import Derived.ProofKit
import Derived.OpenShut
import Derived.WalkLawsBesides
import Derived.WalkSpells
import Derived.Lib.Hide
import Derived.Deep.DeepCutAuto
import Derived.Deep.CutBlock
import Derived.Deep.QuietTactic
import Derived.BigQuiet
import Derived.Handy
import Derived.StillTailTactics
import Derived.IntWalk
import Derived.LoopN
import Derived.Deep.RegionHeld3
namespace Go.Proofs.Ytjmnipdibjhbhaa
open Go.ChangeShapes Go.WideShapes Go.ChangeAt Go.RowKit
set_option linter.unusedVariables false
set_option linter.unusedSimpArgs false

def kn (r : Int) : Int := if r = 2 ∨ r = 3 then r else 1
def dL (n s : Int) (a : Bool) (t : Int) : Int := if a = true ∧ (s < t ∨ (t = s ∧ n = 2)) then 1 else 2
def dF (n s o t : Int) : Int := if (o = 2 ∧ t ≠ s) ∨ s < t then 1 else if o = 3 ∧ (t < s ∨ n = 1) then 2 else 3
def dec (n r s al : Int) (h : Bool) (o t : Int) : Int :=
  if r = 2 then dL n s (h && decide (kn o = 2)) t
  else if r = 3 then (if h = false ∨ kn o = 1 then 2 else dF n s (kn o) t)
  else if (h = false ∧ 3 ≤ al) ∨ (h = true ∧ kn o = 1 ∧ n = 1) then 2 else 1
theorem bne_ {a b : Int} (h : a ≠ b) : (a == b) = false := by simp [h]
theorem retu {k : IntKind} {a b : Int} (h : a = b) : Ending.returned (.int k a) = .returned (.int k b) := by rw [h]
theorem kn_cases (o : Int) : (o = 2 ∧ kn o = 2) ∨ (o = 3 ∧ kn o = 3) ∨ (o ≠ 2 ∧ o ≠ 3 ∧ kn o = 1) := by unfold kn; split <;> omega
set_option maxHeartbeats 4000000 in
set_option maxRecDepth 100000 in
theorem known_w (r : Int) (r_0 : 0 ≤ r) (r_1 : r ≤ 255) (w : World) : Calls Try.prog 10 #[.int .u8 r] w fun en w' => en = .returned (.int .u8 (kn r)) ∧ w = w' := by
  rcases kn_cases r with ⟨rfl, e⟩ | ⟨rfl, e⟩ | ⟨h1, h2, e⟩
  all_goals rw [e]
  all_goals clear e
  all_goals try have g1 := bne_ h1
  all_goals try have g2 := bne_ h2
  all_goals go_enter Try.func10, Try.ntmps10
  all_goals go_wp2_with fail
  all_goals go_ret
  all_goals exact ⟨rfl, rfl⟩
set_option maxHeartbeats 4000000 in
set_option maxRecDepth 100000 in
theorem leader_w (n s : Int) (a : Bool) (t : Int) (n_0 : -9223372036854775808 ≤ n) (n_1 : n ≤ 9223372036854775807) (s_0 : -9223372036854775808 ≤ s) (s_1 : s ≤ 9223372036854775807) (t_0 : -9223372036854775808 ≤ t) (t_1 : t ≤ 9223372036854775807) (w : World) : Calls Try.prog 11 #[.int .i64 n, .int .i64 s, .bool a, .int .i64 t] w fun en w' => en = .returned (.int .u8 (dL n s a t)) ∧ w = w' := by
  cases a
  · go_enter Try.func11, Try.ntmps11
    go_wp2_with fail
    go_ret
    exact ⟨rfl, rfl⟩
  have e1 : s < t → dL n s true t = 1 := fun h => by unfold dL; rw [if_pos ⟨rfl, Or.inl h⟩]
  have e2 : t = s → n = 2 → dL n s true t = 1 := fun h g => by unfold dL; rw [if_pos ⟨rfl, Or.inr ⟨h, g⟩⟩]
  have e3 : ¬ (s < t ∨ (t = s ∧ n = 2)) → dL n s true t = 2 := fun h => by unfold dL; rw [if_neg (fun x => h x.2)]
  rcases Int.lt_trichotomy s t with c | c | c
  · rw [e1 c]
    clear e1 e2 e3
    go_enter Try.func11, Try.ntmps11
    go_wp2_with fail
    go_ret
    exact ⟨rfl, rfl⟩
  · by_cases d : n = 2
    · rw [e2 c.symm d]
      subst c d
      clear e1 e2 e3
      go_enter Try.func11, Try.ntmps11
      go_wp2_with fail
      go_ret
      exact ⟨rfl, rfl⟩
    · rw [e3 (by omega)]
      subst c
      clear e1 e2 e3
      go_enter Try.func11, Try.ntmps11
      go_wp2_with fail
      go_ret
      exact ⟨rfl, rfl⟩
  · rw [e3 (by omega)]
    clear e1 e2 e3
    go_enter Try.func11, Try.ntmps11
    go_wp2_with fail
    go_ret
    exact ⟨rfl, rfl⟩
set_option maxHeartbeats 4000000 in
set_option maxRecDepth 100000 in
theorem follower_w (n s o t : Int) (n_0 : -9223372036854775808 ≤ n) (n_1 : n ≤ 9223372036854775807) (s_0 : -9223372036854775808 ≤ s) (s_1 : s ≤ 9223372036854775807) (t_0 : -9223372036854775808 ≤ t) (t_1 : t ≤ 9223372036854775807) (o_0 : 0 ≤ o) (o_1 : o ≤ 255) (w : World) : Calls Try.prog 12 #[.int .i64 n, .int .i64 s, .int .u8 o, .int .i64 t] w fun en w' => en = .returned (.int .u8 (dF n s o t)) ∧ w = w' := by
  obtain ⟨z, hz⟩ : ∃ z, dF n s o t = z := ⟨_, rfl⟩
  rw [hz]
  have HZ := Lib.hid hz
  clear hz
  rcases Int.lt_trichotomy s t with c | c | c
  · go_enter Try.func12, Try.ntmps12
    go_wp2_with fail
    all_goals go_ret
    all_goals exact ⟨retu (by rw [← HZ.out]; unfold dF; (repeat' split) <;> omega), rfl⟩
  · subst c
    by_cases d : n = 1
    · subst d
      go_enter Try.func12, Try.ntmps12
      go_wp2_with fail
      all_goals go_ret
      all_goals exact ⟨retu (by rw [← HZ.out]; unfold dF; (repeat' split) <;> omega), rfl⟩
    · go_enter Try.func12, Try.ntmps12
      go_wp2_with fail
      all_goals go_ret
      all_goals exact ⟨retu (by rw [← HZ.out]; unfold dF; (repeat' split) <;> omega), rfl⟩
  · go_enter Try.func12, Try.ntmps12
    go_wp2_with fail
    all_goals go_ret
    all_goals exact ⟨retu (by rw [← HZ.out]; unfold dF; (repeat' split) <;> omega), rfl⟩
set_option maxHeartbeats 4000000 in
set_option maxRecDepth 100000 in
theorem decide_w (n r s al : Int) (h : Bool) (o t : Int) (n_0 : -9223372036854775808 ≤ n) (n_1 : n ≤ 9223372036854775807) (s_0 : -9223372036854775808 ≤ s) (s_1 : s ≤ 9223372036854775807) (al_0 : -9223372036854775808 ≤ al) (al_1 : al ≤ 9223372036854775807) (t_0 : -9223372036854775808 ≤ t) (t_1 : t ≤ 9223372036854775807) (r_0 : 0 ≤ r) (r_1 : r ≤ 255) (o_0 : 0 ≤ o) (o_1 : o ≤ 255) (w : World) : Calls Try.prog 6 #[.int .i64 n, .int .u8 r, .int .i64 s, .int .i64 al, .bool h, .int .u8 o, .int .i64 t] w fun en w' => en = .returned (.int .u8 (dec n r s al h o t)) ∧ w = w' := by
  obtain ⟨z, hz⟩ : ∃ z, dec n r s al h o t = z := ⟨_, rfl⟩
  rw [hz]
  obtain ⟨y, hy⟩ : ∃ y, kn o = y := ⟨_, rfl⟩
  obtain ⟨x, hx⟩ : ∃ x, kn r = x := ⟨_, rfl⟩
  have ko := kn_cases o
  have kr := kn_cases r
  rw [hy] at ko
  rw [hx] at kr
  have HZ := Lib.hid hz
  have KO := Lib.hid hy
  have KR := Lib.hid hx
  clear hz hy hx
  cases h
  all_goals rcases ko with ⟨rfl, rfl⟩ | ⟨rfl, rfl⟩ | ⟨o2, o3, rfl⟩
  all_goals rcases kr with ⟨rfl, rfl⟩ | ⟨rfl, rfl⟩ | ⟨r2, r3, rfl⟩
  all_goals go_enter Try.func6, Try.ntmps6
  all_goals go_wp2_with (first | (go_at_call 10; refine (known_w _ (by omega) (by omega) _).mono ?_; rintro e w' ⟨rfl, rfl⟩; rw [KO.out]) | (go_at_call 10; refine (known_w _ (by omega) (by omega) _).mono ?_; rintro e w' ⟨rfl, rfl⟩; rw [KR.out]) | (go_at_call 11; refine (leader_w _ _ _ _ (by omega) (by omega) (by omega) (by omega) (by omega) (by omega) _).mono ?_; rintro e w' ⟨rfl, rfl⟩) | (go_at_call 12; refine (follower_w _ _ _ _ (by omega) (by omega) (by omega) (by omega) (by omega) (by omega) (by omega) (by omega) _).mono ?_; rintro e w' ⟨rfl, rfl⟩))
  all_goals go_ret
  all_goals refine ⟨retu ?_, rfl⟩
  all_goals rw [← HZ.out]
  all_goals have ko := KO.out
  all_goals clear HZ KO KR
  all_goals first | (simp [dec, ko]; done) | (simp [dec, ko]; omega) | (simp [dec, ko, dL, dF]; done) | (simp [dec, ko, dL, dF]; omega) | (simp [dec, ko, dL, dF]; (repeat' split) <;> omega) | (simp_all [dec, dL, dF]; done) | (simp_all [dec, dL, dF]; omega) | (simp_all [dec, dL, dF]; (repeat' split) <;> omega)
set_option maxHeartbeats 4000000 in
set_option maxRecDepth 100000 in
theorem ref_decide_w (n r s al : Int) (h : Bool) (o t : Int) (n_0 : -9223372036854775808 ≤ n) (n_1 : n ≤ 9223372036854775807) (s_0 : -9223372036854775808 ≤ s) (s_1 : s ≤ 9223372036854775807) (al_0 : -9223372036854775808 ≤ al) (al_1 : al ≤ 9223372036854775807) (t_0 : -9223372036854775808 ≤ t) (t_1 : t ≤ 9223372036854775807) (r_0 : 0 ≤ r) (r_1 : r ≤ 255) (o_0 : 0 ≤ o) (o_1 : o ≤ 255) (w : World) : Calls Try.prog 7 #[.int .i64 n, .int .u8 r, .int .i64 s, .int .i64 al, .bool h, .int .u8 o, .int .i64 t] w fun en w' => en = .returned (.int .u8 (dec n r s al h o t)) ∧ w = w' := by
  obtain ⟨z, hz⟩ : ∃ z, dec n r s al h o t = z := ⟨_, rfl⟩
  rw [hz]
  obtain ⟨y, hy⟩ : ∃ y, kn o = y := ⟨_, rfl⟩
  obtain ⟨x, hx⟩ : ∃ x, kn r = x := ⟨_, rfl⟩
  have ko := kn_cases o
  have kr := kn_cases r
  rw [hy] at ko
  rw [hx] at kr
  have HZ := Lib.hid hz
  have KO := Lib.hid hy
  have KR := Lib.hid hx
  clear hz hy hx
  cases h
  all_goals rcases ko with ⟨rfl, rfl⟩ | ⟨rfl, rfl⟩ | ⟨o2, o3, rfl⟩
  all_goals rcases kr with ⟨rfl, rfl⟩ | ⟨rfl, rfl⟩ | ⟨r2, r3, rfl⟩
  all_goals go_enter Try.func7, Try.ntmps7
  all_goals go_wp2_with (fail)
  all_goals go_ret
  all_goals refine ⟨retu ?_, rfl⟩
  all_goals rw [← HZ.out]
  all_goals have ko := KO.out
  all_goals clear HZ KO KR
  all_goals first | (simp [dec, ko]; done) | (simp [dec, ko]; omega) | (simp [dec, ko, dL, dF]; done) | (simp [dec, ko, dL, dF]; omega) | (simp [dec, ko, dL, dF]; (repeat' split) <;> omega) | (simp_all [dec, dL, dF]; done) | (simp_all [dec, dL, dF]; omega) | (simp_all [dec, dL, dF]; (repeat' split) <;> omega)

end Go.Proofs.Ytjmnipdibjhbhaa
