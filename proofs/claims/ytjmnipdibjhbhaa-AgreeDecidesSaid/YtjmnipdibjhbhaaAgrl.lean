/-
  The laws of layer 53: roles; walks.
-/
import Derived.Test.YtjmnipdibjhbhaaAgrc
import Derived.WalkKit
import Derived.ProofKit
import Derived.OpenShut
import Derived.WalkLawsBesides
import Derived.WalkSpells
import Derived.Lib.Hide
import Derived.Deep.DeepCutAuto
import Derived.Deep.CutBlock
import Derived.Deep.QuietTactic
import Derived.BigQuiet
import Derived.Handy
import Derived.StillTailTactics
import Derived.IntWalk
import Derived.LoopN
import Derived.Deep.RegionHeld3
namespace Go.Proofs.Ytjmnipdibjhbhaa
open Go.ChangeShapes Go.WideShapes Go.ChangeAt Go.RowKit
set_option linter.unusedVariables false
set_option linter.unusedSimpArgs false

theorem dec_one (al r o s t : Int) : (dec 1 r s al true o t = 2 ∧ dec 2 o t al true r s = 1) ∨ (dec 1 r s al true o t = 1 ∧ dec 2 o t al true r s = 2) ∨ (s = t ∧ dec 1 r s al true o t = 2 ∧ dec 2 o t al true r s = 3) ∨ (s = t ∧ dec 1 r s al true o t = 3 ∧ dec 2 o t al true r s = 2) := by
  have ko := kn_cases o
  have kr := kn_cases r
  unfold dec dL dF
  generalize kn o = y at ko ⊢
  generalize kn r = x at kr ⊢
  simp only [Bool.true_and, decide_eq_true_eq, Bool.true_eq_false, false_and, false_or, true_and]
  rcases ko with ⟨rfl, rfl⟩ | ⟨rfl, rfl⟩ | ⟨o2, o3, rfl⟩
  all_goals rcases kr with ⟨rfl, rfl⟩ | ⟨rfl, rfl⟩ | ⟨r2, r3, rfl⟩
  all_goals simp [*]
  all_goals (repeat' split) <;> omega
set_option maxHeartbeats 4000000 in
set_option maxRecDepth 100000 in
theorem law_one (n al r o s t : Int) (h : Bool) (n_0 : -9223372036854775808 ≤ n) (n_1 : n ≤ 9223372036854775807) (al_0 : -9223372036854775808 ≤ al) (al_1 : al ≤ 9223372036854775807) (r_0 : 0 ≤ r) (r_1 : r ≤ 255) (o_0 : 0 ≤ o) (o_1 : o ≤ 255) (s_0 : -9223372036854775808 ≤ s) (s_1 : s ≤ 9223372036854775807) (t_0 : -9223372036854775808 ≤ t) (t_1 : t ≤ 9223372036854775807) (w : World) : Calls Try.prog 4 #[.agg #[.int .i64 n, .int .i64 al, .int .u8 r, .int .u8 o, .int .i64 s, .int .i64 t, .bool h]] w fun en w' => en = .returned (.bool true) ∧ Kept w w' := by
  have d1 := fun w => decide_w 1 r s al true o t (by omega) (by omega) (by omega) (by omega) (by omega) (by omega) (by omega) (by omega) (by omega) (by omega) (by omega) (by omega) w
  have d2 := fun w => decide_w 2 o t al true r s (by omega) (by omega) (by omega) (by omega) (by omega) (by omega) (by omega) (by omega) (by omega) (by omega) (by omega) (by omega) w
  have HO := dec_one al r o s t
  generalize dec 1 r s al true o t = a at HO d1
  generalize dec 2 o t al true r s = b at HO d2
  go_enter Try.func4, Try.ntmps4
  go_wp2_with fail
  refine (awake_w _).mono ?_
  rintro e w1 ⟨rfl, hk⟩
  have hz := hk.size
  have hl : w.heap.size < w1.heap.size := by simp at hz; omega
  have ⟨hq, hg⟩ := kcell hk w.heap.size (by simp)
  have q0 : w1.cell? ⟨w.heap.size, 0, none⟩ = some (.int .i64 n) := by rw [hq]; simp [go_sem]
  have q1 : w1.cell? ⟨w.heap.size, 1, none⟩ = some (.int .i64 al) := by rw [hq]; simp [go_sem]
  have q2 : w1.cell? ⟨w.heap.size, 2, none⟩ = some (.int .u8 r) := by rw [hq]; simp [go_sem]
  have q3 : w1.cell? ⟨w.heap.size, 3, none⟩ = some (.int .u8 o) := by rw [hq]; simp [go_sem]
  have q4 : w1.cell? ⟨w.heap.size, 4, none⟩ = some (.int .i64 s) := by rw [hq]; simp [go_sem]
  have q5 : w1.cell? ⟨w.heap.size, 5, none⟩ = some (.int .i64 t) := by rw [hq]; simp [go_sem]
  have q6 : w1.cell? ⟨w.heap.size, 6, none⟩ = some (.bool h) := by rw [hq]; simp [go_sem]
  have hK := Lib.hid (((Kept.refl w).alloc _).trans hk)
  clear hk hq hg hz

  go_wp2_with fail
  refine (d1 _).mono ?_
  rintro e w3 ⟨rfl, rfl⟩
  go_wp2_with fail
  refine (d2 _).mono ?_
  rintro e w3 ⟨rfl, rfl⟩
  clear d1 d2
  rcases HO with ⟨rfl, rfl⟩ | ⟨rfl, rfl⟩ | ⟨rfl, rfl, rfl⟩ | ⟨rfl, rfl, rfl⟩
  all_goals go_wp2_with fail
  all_goals go_ret
  all_goals exact ⟨rfl, hK.out⟩
set_option maxHeartbeats 4000000 in
set_option maxRecDepth 100000 in
theorem law_decides (n al r o s t : Int) (h : Bool) (n_0 : -9223372036854775808 ≤ n) (n_1 : n ≤ 9223372036854775807) (al_0 : -9223372036854775808 ≤ al) (al_1 : al ≤ 9223372036854775807) (r_0 : 0 ≤ r) (r_1 : r ≤ 255) (o_0 : 0 ≤ o) (o_1 : o ≤ 255) (s_0 : -9223372036854775808 ≤ s) (s_1 : s ≤ 9223372036854775807) (t_0 : -9223372036854775808 ≤ t) (t_1 : t ≤ 9223372036854775807) (w : World) : Calls Try.prog 3 #[.agg #[.int .i64 n, .int .i64 al, .int .u8 r, .int .u8 o, .int .i64 s, .int .i64 t, .bool h]] w fun en w' => en = .returned (.bool true) ∧ Kept w w' := by
  have d1 := fun w => decide_w n r s al h o t (by omega) (by omega) (by omega) (by omega) (by omega) (by omega) (by omega) (by omega) (by omega) (by omega) (by omega) (by omega) w
  have d2 := fun w => ref_decide_w n r s al h o t (by omega) (by omega) (by omega) (by omega) (by omega) (by omega) (by omega) (by omega) (by omega) (by omega) (by omega) (by omega) w
  generalize dec n r s al h o t = a at d1 d2
  go_enter Try.func3, Try.ntmps3
  go_wp2_with fail
  refine (awake_w _).mono ?_
  rintro e w1 ⟨rfl, hk⟩
  have hz := hk.size
  have hl : w.heap.size < w1.heap.size := by simp at hz; omega
  have ⟨hq, hg⟩ := kcell hk w.heap.size (by simp)
  have q0 : w1.cell? ⟨w.heap.size, 0, none⟩ = some (.int .i64 n) := by rw [hq]; simp [go_sem]
  have q1 : w1.cell? ⟨w.heap.size, 1, none⟩ = some (.int .i64 al) := by rw [hq]; simp [go_sem]
  have q2 : w1.cell? ⟨w.heap.size, 2, none⟩ = some (.int .u8 r) := by rw [hq]; simp [go_sem]
  have q3 : w1.cell? ⟨w.heap.size, 3, none⟩ = some (.int .u8 o) := by rw [hq]; simp [go_sem]
  have q4 : w1.cell? ⟨w.heap.size, 4, none⟩ = some (.int .i64 s) := by rw [hq]; simp [go_sem]
  have q5 : w1.cell? ⟨w.heap.size, 5, none⟩ = some (.int .i64 t) := by rw [hq]; simp [go_sem]
  have q6 : w1.cell? ⟨w.heap.size, 6, none⟩ = some (.bool h) := by rw [hq]; simp [go_sem]
  have hK := Lib.hid (((Kept.refl w).alloc _).trans hk)
  clear hk hq hg hz

  go_wp2_with fail
  go_quiet (first | (go_at_call 6; exact quiet_eq (d1 _)) | (go_at_call 7; exact quiet_eq (d2 _)))
  have hK' := Lib.hid (hK.out.drewN nq)
  clear hK d1 d2
  go_wp2_with fail
  go_ret
  exact ⟨rfl, hK'.out⟩

end Go.Proofs.Ytjmnipdibjhbhaa
