/-
  The law IntervalTight of layer 3 (interval): the bounds of a product are products of bounds, those of a sum sums of bounds, for every input.
-/
import Derived.Test.YtfmijkbmedfcfaaRows
import Derived.Test.YtfmijkbmedfcfaaBase
import Derived.Test.YtfmijkbmedfcfaaInttgd
import Derived.WalkKit
import Derived.ProofKit
import Derived.OpenShut
namespace Go.Proofs.Ytfmijkbmedfcfaa.intervalTight
open Go.ChangeShapes Go.WideShapes Go.ChangeAt Go.RowKit
open Go.ChangeMaps (open_string shut_string)
set_option linter.unusedVariables false
set_option linter.unusedSimpArgs false

theorem own : ownKnob Try.prog.godebug = none := by kernel_rfl
theorem laidOut : laidOutB Try.prog = true := by kernel_rfl

set_option maxRecDepth 100000 in
theorem lifted (os : Os) (started : os.Started) (H : Type) (enc : TypeId × Value → H) :
    ReturnsInHanded {} Try.checked os 3 .any (Rows.intervalTightSpec.pre6 enc Try.prog Try.f3 Rows.intervalTightRow.domain false) (Rows.intervalTightSpec.post enc Try.prog Try.f3 false true false false) := by
  refine returnsInHanded_of_change (C := Try.checked) own started (by kernel_rfl) Try.func3
    (ChangeSpec.witness6 (enc := enc) (C := Try.checked) false ⟨#[], #[.agg #[.int .i64 0, .int .i64 0], .agg #[.int .i64 0, .int .i64 0]], []⟩ 12 (by kernel_rfl) (by kernel_rfl) (by kernel_rfl) (by kernel_rfl)) ?_
  intro W base args ds gs before hval0 hW hcnd _
  have hval : ∀ (j : Nat) t v, Try.f3.params[j]? = some t → args[j]? = some v → Value.okWide Try.prog W .any base t v := hval0
  have hW' := hW
  obtain ⟨p, q, hA0, hV, rfl, hfz, hnd⟩ := hW
  have hA : DataW.TrodAll enc Try.prog W 0 (fun _ => true) true Try.f3.params.toList args.toList ds p := hA0
  rw [Try.params3] at hA hval
  obtain ⟨v0, vs0, d0, ds0, p0, q0, hargs, rfl, rfl, h0, r0⟩ := trodAll_cons hA
  obtain ⟨v1, vs1, d1, ds1, p1, q1, rfl, rfl, rfl, h1, r1⟩ := trodAll_cons r0
  obtain ⟨rfl, rfl, rfl⟩ := trodAll_nil r1
  obtain rfl : args = #[v0, v1] := by cases args; simp_all
  obtain ⟨rfl, rfl⟩ := trodVars_none hV
  obtain ⟨cs0, rfl, z0⟩ := agg_of (by kernel_rfl) (hval 0 23 v0 rfl rfl)
  obtain ⟨a0_0, e0_0, w0_0⟩ := leaf_int (l := 2) (k := .i64) (t := 23) (o := 0) (by kernel_rfl) (by kernel_rfl) h0
  obtain ⟨a0_1, e0_1, w0_1⟩ := leaf_int (l := 2) (k := .i64) (t := 23) (o := 1) (by kernel_rfl) (by kernel_rfl) h0
  obtain rfl : cs0 = #[.int .i64 a0_0, .int .i64 a0_1] := row_of [.int .i64 a0_0, .int .i64 a0_1] (z0.trans (by kernel_rfl)) (fun i hi => by match i, hi with | 0, _ => exact e0_0 | 1, _ => exact e0_1)
  obtain ⟨cs1, rfl, z1⟩ := agg_of (by kernel_rfl) (hval 1 23 v1 rfl rfl)
  obtain ⟨a1_0, e1_0, w1_0⟩ := leaf_int (l := 2) (k := .i64) (t := 23) (o := 0) (by kernel_rfl) (by kernel_rfl) h1
  obtain ⟨a1_1, e1_1, w1_1⟩ := leaf_int (l := 2) (k := .i64) (t := 23) (o := 1) (by kernel_rfl) (by kernel_rfl) h1
  obtain rfl : cs1 = #[.int .i64 a1_0, .int .i64 a1_1] := row_of [.int .i64 a1_0, .int .i64 a1_1] (z1.trans (by kernel_rfl)) (fun i hi => by match i, hi with | 0, _ => exact e1_0 | 1, _ => exact e1_1)
  clear hA0 hval0
  refine (law_tight a0_0 a0_1 a1_0 a1_1 (bd_i64 w0_0).1 (bd_i64 w0_0).2 (bd_i64 w0_1).1 (bd_i64 w0_1).2 (bd_i64 w1_0).1 (bd_i64 w1_0).2 (bd_i64 w1_1).1 (bd_i64 w1_1).2 W ).mono fun e W' ⟨he, hg⟩ => ?_
  subst he
  exact ⟨_, rfl, law_post (tb := 4) laidOut (by kernel_rfl) (by kernel_rfl) (by kernel_rfl) rfl hW' ⟨rfl, rfl, rfl⟩ (hg)⟩

theorem over : Rows.intervalTightRow.holds Try.pinned (OpenSpec.ofChange Rows.intervalTightSpec) :=
  OpenClaim.holds_of_wide 3 Try.f3 rfl rfl rfl rfl rfl rfl rfl ⟨rfl, rfl, rfl, rfl, rfl⟩ rfl rfl rfl rfl rfl (by kernel_rfl) Try.func3 (by kernel_rfl)
    (of_decide_eq_true (by kernel_rfl)) (by unfold Func.isWrapper; first | (rw [if_pos (by decide +kernel)]; kernel_rfl) | (rw [if_neg (by decide +kernel)]; exact ⟨rfl, rfl⟩))
    (fun os started H enc _ => lifted os started H enc)

theorem proved : Rows.IntervalTightSaid :=
  over
end Go.Proofs.Ytfmijkbmedfcfaa.intervalTight
