/-
  Layer 12 (P12.8): for every center, radius, point and side, the tangent point is the document's. No conditions.
-/
import Derived.Test.YtfnhnlnofglkoaaRows
import Derived.Test.YtfnhnlnofglkoaaBase
import Derived.Test.YtfnhnlnofglkoaaTurlt
import Derived.WalkKit
import Derived.ProofKit
import Derived.OpenShut
namespace Go.Proofs.Ytfnhnlnofglkoaa.turnTangents
open Go.ChangeShapes Go.WideShapes Go.ChangeAt Go.RowKit
open Go.ChangeMaps (open_string shut_string)
set_option linter.unusedVariables false
set_option linter.unusedSimpArgs false

theorem own : ownKnob Try.prog.godebug = none := by kernel_rfl
theorem laidOut : laidOutB Try.prog = true := by kernel_rfl

set_option maxRecDepth 100000 in
theorem lifted (os : Os) (started : os.Started) (H : Type) (enc : TypeId × Value → H) :
    ReturnsInHanded {} Try.checked os 11 .any (Rows.turnTangentsSpec.pre6 enc Try.prog Try.f11 Rows.turnTangentsRow.domain false) (Rows.turnTangentsSpec.post enc Try.prog Try.f11 false true false false) := by
  refine returnsInHanded_of_change (C := Try.checked) own started (by kernel_rfl) Try.func11
    (ChangeSpec.witness6 (enc := enc) (C := Try.checked) false ⟨#[], #[.agg #[.int .i64 0, .int .i64 0, .int .i64 0, .int .i64 0, .int .i64 0, .int .i64 0, .int .i64 0], .bool false], []⟩ 12 (by kernel_rfl) (by kernel_rfl) (by kernel_rfl) (by kernel_rfl)) ?_
  intro W base args ds gs before hval0 hW hcnd _
  have hval : ∀ (j : Nat) t v, Try.f11.params[j]? = some t → args[j]? = some v → Value.okWide Try.prog W .any base t v := hval0
  have hW' := hW
  obtain ⟨p, q, hA0, hV, rfl, hfz, hnd⟩ := hW
  have hA : DataW.TrodAll enc Try.prog W 0 (fun _ => true) true Try.f11.params.toList args.toList ds p := hA0
  rw [Try.params11] at hA hval
  obtain ⟨v0, vs0, d0, ds0, p0, q0, hargs, rfl, rfl, h0, r0⟩ := trodAll_cons hA
  obtain ⟨v1, vs1, d1, ds1, p1, q1, rfl, rfl, rfl, h1, r1⟩ := trodAll_cons r0
  obtain ⟨rfl, rfl, rfl⟩ := trodAll_nil r1
  obtain rfl : args = #[v0, v1] := by cases args; simp_all
  obtain ⟨rfl, rfl⟩ := trodVars_none hV
  obtain ⟨cs0, rfl, z0⟩ := agg_of (by kernel_rfl) (hval 0 41 v0 rfl rfl)
  obtain ⟨a0_0, e0_0, w0_0⟩ := leaf_int (l := 2) (k := .i64) (t := 41) (o := 0) (by kernel_rfl) (by kernel_rfl) h0
  obtain ⟨a0_1, e0_1, w0_1⟩ := leaf_int (l := 2) (k := .i64) (t := 41) (o := 1) (by kernel_rfl) (by kernel_rfl) h0
  obtain ⟨a0_2, e0_2, w0_2⟩ := leaf_int (l := 2) (k := .i64) (t := 41) (o := 2) (by kernel_rfl) (by kernel_rfl) h0
  obtain ⟨a0_3, e0_3, w0_3⟩ := leaf_int (l := 2) (k := .i64) (t := 41) (o := 3) (by kernel_rfl) (by kernel_rfl) h0
  obtain ⟨a0_4, e0_4, w0_4⟩ := leaf_int (l := 2) (k := .i64) (t := 41) (o := 4) (by kernel_rfl) (by kernel_rfl) h0
  obtain ⟨a0_5, e0_5, w0_5⟩ := leaf_int (l := 2) (k := .i64) (t := 41) (o := 5) (by kernel_rfl) (by kernel_rfl) h0
  obtain ⟨a0_6, e0_6, w0_6⟩ := leaf_int (l := 2) (k := .i64) (t := 41) (o := 6) (by kernel_rfl) (by kernel_rfl) h0
  obtain rfl : cs0 = #[.int .i64 a0_0, .int .i64 a0_1, .int .i64 a0_2, .int .i64 a0_3, .int .i64 a0_4, .int .i64 a0_5, .int .i64 a0_6] := row_of [.int .i64 a0_0, .int .i64 a0_1, .int .i64 a0_2, .int .i64 a0_3, .int .i64 a0_4, .int .i64 a0_5, .int .i64 a0_6] (z0.trans (by kernel_rfl)) (fun i hi => by match i, hi with | 0, _ => exact e0_0 | 1, _ => exact e0_1 | 2, _ => exact e0_2 | 3, _ => exact e0_3 | 4, _ => exact e0_4 | 5, _ => exact e0_5 | 6, _ => exact e0_6)
  obtain ⟨a1, rfl, rfl, rfl⟩ := open_bool Try.underlying4 (hval 1 4 v1 rfl rfl) h1
  clear hA0 hval0
  refine (law_tangents a0_0 a0_1 a0_2 a0_3 a0_4 a0_5 a0_6 a1 (bd_i64 w0_0).1 (bd_i64 w0_0).2 (bd_i64 w0_1).1 (bd_i64 w0_1).2 (bd_i64 w0_2).1 (bd_i64 w0_2).2 (bd_i64 w0_3).1 (bd_i64 w0_3).2 (bd_i64 w0_4).1 (bd_i64 w0_4).2 (bd_i64 w0_5).1 (bd_i64 w0_5).2 (bd_i64 w0_6).1 (bd_i64 w0_6).2 W ).mono fun e W' ⟨he, hg⟩ => ?_
  subst he
  exact ⟨_, rfl, law_post (tb := 4) laidOut (by kernel_rfl) (by kernel_rfl) (by kernel_rfl) rfl hW' ⟨rfl, rfl, rfl⟩ (hg)⟩

theorem over : Rows.turnTangentsRow.holds Try.pinned (OpenSpec.ofChange Rows.turnTangentsSpec) :=
  OpenClaim.holds_of_wide 11 Try.f11 rfl rfl rfl rfl rfl rfl rfl ⟨rfl, rfl, rfl, rfl, rfl⟩ rfl rfl rfl rfl rfl (by kernel_rfl) Try.func11 (by kernel_rfl)
    (of_decide_eq_true (by kernel_rfl)) (by unfold Func.isWrapper; first | (rw [if_pos (by decide +kernel)]; kernel_rfl) | (rw [if_neg (by decide +kernel)]; exact ⟨rfl, rfl⟩))
    (fun os started H enc _ => lifted os started H enc)

theorem proved : Rows.TurnTangentsSaid :=
  over
end Go.Proofs.Ytfnhnlnofglkoaa.turnTangents
