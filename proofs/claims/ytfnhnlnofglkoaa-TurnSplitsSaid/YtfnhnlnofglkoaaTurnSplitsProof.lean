/-
  Layer 12 (P12.3): for every arc and cut, the lengths of the two parts add up to the arc's but for 1. No conditions.
-/
import Derived.Test.YtfnhnlnofglkoaaRows
import Derived.Test.YtfnhnlnofglkoaaBase
import Derived.Test.YtfnhnlnofglkoaaTurls
import Derived.WalkKit
import Derived.ProofKit
import Derived.OpenShut
namespace Go.Proofs.Ytfnhnlnofglkoaa.turnSplits
open Go.ChangeShapes Go.WideShapes Go.ChangeAt Go.RowKit
open Go.ChangeMaps (open_string shut_string)
set_option linter.unusedVariables false
set_option linter.unusedSimpArgs false

theorem own : ownKnob Try.prog.godebug = none := by kernel_rfl
theorem laidOut : laidOutB Try.prog = true := by kernel_rfl

set_option maxRecDepth 100000 in
theorem lifted (os : Os) (started : os.Started) (H : Type) (enc : TypeId × Value → H) :
    ReturnsInHanded {} Try.checked os 6 .any (Rows.turnSplitsSpec.pre6 enc Try.prog Try.f6 Rows.turnSplitsRow.domain false) (Rows.turnSplitsSpec.post enc Try.prog Try.f6 false true false false) := by
  refine returnsInHanded_of_change (C := Try.checked) own started (by kernel_rfl) Try.func6
    (ChangeSpec.witness6 (enc := enc) (C := Try.checked) false ⟨#[], #[.agg #[.int .i64 0, .int .i64 0, .int .i64 0, .int .i64 0, .int .i64 0], .int .i64 0], []⟩ 12 (by kernel_rfl) (by kernel_rfl) (by kernel_rfl) (by kernel_rfl)) ?_
  intro W base args ds gs before hval0 hW hcnd _
  have hval : ∀ (j : Nat) t v, Try.f6.params[j]? = some t → args[j]? = some v → Value.okWide Try.prog W .any base t v := hval0
  have hW' := hW
  obtain ⟨p, q, hA0, hV, rfl, hfz, hnd⟩ := hW
  have hA : DataW.TrodAll enc Try.prog W 0 (fun _ => true) true Try.f6.params.toList args.toList ds p := hA0
  rw [Try.params6] at hA hval
  obtain ⟨v0, vs0, d0, ds0, p0, q0, hargs, rfl, rfl, h0, r0⟩ := trodAll_cons hA
  obtain ⟨v1, vs1, d1, ds1, p1, q1, rfl, rfl, rfl, h1, r1⟩ := trodAll_cons r0
  obtain ⟨rfl, rfl, rfl⟩ := trodAll_nil r1
  obtain rfl : args = #[v0, v1] := by cases args; simp_all
  obtain ⟨rfl, rfl⟩ := trodVars_none hV
  obtain ⟨cs0, rfl, z0⟩ := agg_of (by kernel_rfl) (hval 0 30 v0 rfl rfl)
  obtain ⟨a0_0, e0_0, w0_0⟩ := leaf_int (l := 2) (k := .i64) (t := 30) (o := 0) (by kernel_rfl) (by kernel_rfl) h0
  obtain ⟨a0_1, e0_1, w0_1⟩ := leaf_int (l := 2) (k := .i64) (t := 30) (o := 1) (by kernel_rfl) (by kernel_rfl) h0
  obtain ⟨a0_2, e0_2, w0_2⟩ := leaf_int (l := 2) (k := .i64) (t := 30) (o := 2) (by kernel_rfl) (by kernel_rfl) h0
  obtain ⟨a0_3, e0_3, w0_3⟩ := leaf_int (l := 2) (k := .i64) (t := 30) (o := 3) (by kernel_rfl) (by kernel_rfl) h0
  obtain ⟨a0_4, e0_4, w0_4⟩ := leaf_int (l := 2) (k := .i64) (t := 30) (o := 4) (by kernel_rfl) (by kernel_rfl) h0
  obtain rfl : cs0 = #[.int .i64 a0_0, .int .i64 a0_1, .int .i64 a0_2, .int .i64 a0_3, .int .i64 a0_4] := row_of [.int .i64 a0_0, .int .i64 a0_1, .int .i64 a0_2, .int .i64 a0_3, .int .i64 a0_4] (z0.trans (by kernel_rfl)) (fun i hi => by match i, hi with | 0, _ => exact e0_0 | 1, _ => exact e0_1 | 2, _ => exact e0_2 | 3, _ => exact e0_3 | 4, _ => exact e0_4)
  obtain ⟨a1, rfl, rfl, rfl, w1⟩ := open_int Try.underlying2 (hval 1 2 v1 rfl rfl) h1
  clear hA0 hval0
  refine (law_splits a0_0 a0_1 a0_2 a0_3 a0_4 a1 (bd_i64 w0_0).1 (bd_i64 w0_0).2 (bd_i64 w0_1).1 (bd_i64 w0_1).2 (bd_i64 w0_2).1 (bd_i64 w0_2).2 (bd_i64 w0_3).1 (bd_i64 w0_3).2 (bd_i64 w0_4).1 (bd_i64 w0_4).2 (bd_i64 w1).1 (bd_i64 w1).2 W ).mono fun e W' ⟨he, hg⟩ => ?_
  subst he
  exact ⟨_, rfl, law_post (tb := 4) laidOut (by kernel_rfl) (by kernel_rfl) (by kernel_rfl) rfl hW' ⟨rfl, rfl, rfl⟩ (hg)⟩

theorem over : Rows.turnSplitsRow.holds Try.pinned (OpenSpec.ofChange Rows.turnSplitsSpec) :=
  OpenClaim.holds_of_wide 6 Try.f6 rfl rfl rfl rfl rfl rfl rfl ⟨rfl, rfl, rfl, rfl, rfl⟩ rfl rfl rfl rfl rfl (by kernel_rfl) Try.func6 (by kernel_rfl)
    (of_decide_eq_true (by kernel_rfl)) (by unfold Func.isWrapper; first | (rw [if_pos (by decide +kernel)]; kernel_rfl) | (rw [if_neg (by decide +kernel)]; exact ⟨rfl, rfl⟩))
    (fun os started H enc _ => lifted os started H enc)

theorem proved : Rows.TurnSplitsSaid :=
  over
end Go.Proofs.Ytfnhnlnofglkoaa.turnSplits
