/-
  Layer 11 (P11.7): for every four points, whether a point is beyond a bisector is as in the document. No conditions.
-/
import Derived.Test.YtokgmhicindibaaRows
import Derived.Test.YtokgmhicindibaaBase
import Derived.Test.YtokgmhicindibaaLinepa
import Derived.WalkKit
import Derived.ProofKit
import Derived.OpenShut
namespace Go.Proofs.Ytokgmhicindibaa.linePasts
open Go.ChangeShapes Go.WideShapes Go.ChangeAt Go.RowKit
open Go.ChangeMaps (open_string shut_string)
set_option linter.unusedVariables false
set_option linter.unusedSimpArgs false

theorem own : ownKnob Try.prog.godebug = none := by kernel_rfl
theorem laidOut : laidOutB Try.prog = true := by kernel_rfl

set_option maxRecDepth 100000 in
theorem lifted (os : Os) (started : os.Started) (H : Type) (enc : TypeId × Value → H) :
    ReturnsInHanded {} Try.checked os 12 .any (Rows.linePastsSpec.pre6 enc Try.prog Try.f12 Rows.linePastsRow.domain false) (Rows.linePastsSpec.post enc Try.prog Try.f12 false true false false) := by
  refine returnsInHanded_of_change (C := Try.checked) own started (by kernel_rfl) Try.func12
    (ChangeSpec.witness6 (enc := enc) (C := Try.checked) false ⟨#[], #[.agg #[.int .i64 0, .int .i64 0, .int .i64 0, .int .i64 0, .int .i64 0, .int .i64 0, .int .i64 0, .int .i64 0]], []⟩ 12 (by kernel_rfl) (by kernel_rfl) (by kernel_rfl) (by kernel_rfl)) ?_
  intro W base args ds gs before hval0 hW hcnd _
  have hval : ∀ (j : Nat) t v, Try.f12.params[j]? = some t → args[j]? = some v → Value.okWide Try.prog W .any base t v := hval0
  have hW' := hW
  obtain ⟨p, q, hA0, hV, rfl, hfz, hnd⟩ := hW
  have hA : DataW.TrodAll enc Try.prog W 0 (fun _ => true) true Try.f12.params.toList args.toList ds p := hA0
  rw [Try.params12] at hA hval
  obtain ⟨v0, vs0, d0, ds0, p0, q0, hargs, rfl, rfl, h0, r0⟩ := trodAll_cons hA
  obtain ⟨rfl, rfl, rfl⟩ := trodAll_nil r0
  obtain rfl : args = #[v0] := by cases args; simp_all
  obtain ⟨rfl, rfl⟩ := trodVars_none hV
  obtain ⟨cs0, rfl, z0⟩ := agg_of (by kernel_rfl) (hval 0 40 v0 rfl rfl)
  obtain ⟨a0_0, e0_0, w0_0⟩ := leaf_int (l := 2) (k := .i64) (t := 40) (o := 0) (by kernel_rfl) (by kernel_rfl) h0
  obtain ⟨a0_1, e0_1, w0_1⟩ := leaf_int (l := 2) (k := .i64) (t := 40) (o := 1) (by kernel_rfl) (by kernel_rfl) h0
  obtain ⟨a0_2, e0_2, w0_2⟩ := leaf_int (l := 2) (k := .i64) (t := 40) (o := 2) (by kernel_rfl) (by kernel_rfl) h0
  obtain ⟨a0_3, e0_3, w0_3⟩ := leaf_int (l := 2) (k := .i64) (t := 40) (o := 3) (by kernel_rfl) (by kernel_rfl) h0
  obtain ⟨a0_4, e0_4, w0_4⟩ := leaf_int (l := 2) (k := .i64) (t := 40) (o := 4) (by kernel_rfl) (by kernel_rfl) h0
  obtain ⟨a0_5, e0_5, w0_5⟩ := leaf_int (l := 2) (k := .i64) (t := 40) (o := 5) (by kernel_rfl) (by kernel_rfl) h0
  obtain ⟨a0_6, e0_6, w0_6⟩ := leaf_int (l := 2) (k := .i64) (t := 40) (o := 6) (by kernel_rfl) (by kernel_rfl) h0
  obtain ⟨a0_7, e0_7, w0_7⟩ := leaf_int (l := 2) (k := .i64) (t := 40) (o := 7) (by kernel_rfl) (by kernel_rfl) h0
  obtain rfl : cs0 = #[.int .i64 a0_0, .int .i64 a0_1, .int .i64 a0_2, .int .i64 a0_3, .int .i64 a0_4, .int .i64 a0_5, .int .i64 a0_6, .int .i64 a0_7] := row_of [.int .i64 a0_0, .int .i64 a0_1, .int .i64 a0_2, .int .i64 a0_3, .int .i64 a0_4, .int .i64 a0_5, .int .i64 a0_6, .int .i64 a0_7] (z0.trans (by kernel_rfl)) (fun i hi => by match i, hi with | 0, _ => exact e0_0 | 1, _ => exact e0_1 | 2, _ => exact e0_2 | 3, _ => exact e0_3 | 4, _ => exact e0_4 | 5, _ => exact e0_5 | 6, _ => exact e0_6 | 7, _ => exact e0_7)
  clear hA0 hval0
  refine (law_pasts a0_0 a0_1 a0_2 a0_3 a0_4 a0_5 a0_6 a0_7 (bd_i64 w0_0).1 (bd_i64 w0_0).2 (bd_i64 w0_1).1 (bd_i64 w0_1).2 (bd_i64 w0_2).1 (bd_i64 w0_2).2 (bd_i64 w0_3).1 (bd_i64 w0_3).2 (bd_i64 w0_4).1 (bd_i64 w0_4).2 (bd_i64 w0_5).1 (bd_i64 w0_5).2 (bd_i64 w0_6).1 (bd_i64 w0_6).2 (bd_i64 w0_7).1 (bd_i64 w0_7).2 W ).mono fun e W' ⟨he, hg⟩ => ?_
  subst he
  exact ⟨_, rfl, law_post (tb := 4) laidOut (by kernel_rfl) (by kernel_rfl) (by kernel_rfl) rfl hW' ⟨rfl, rfl, rfl⟩ (hg)⟩

theorem over : Rows.linePastsRow.holds Try.pinned (OpenSpec.ofChange Rows.linePastsSpec) :=
  OpenClaim.holds_of_wide 12 Try.f12 rfl rfl rfl rfl rfl rfl rfl ⟨rfl, rfl, rfl, rfl, rfl⟩ rfl rfl rfl rfl rfl (by kernel_rfl) Try.func12 (by kernel_rfl)
    (of_decide_eq_true (by kernel_rfl)) (by unfold Func.isWrapper; first | (rw [if_pos (by decide +kernel)]; kernel_rfl) | (rw [if_neg (by decide +kernel)]; exact ⟨rfl, rfl⟩))
    (fun os started H enc _ => lifted os started H enc)

theorem proved : Rows.LinePastsSaid :=
  over
end Go.Proofs.Ytokgmhicindibaa.linePasts
