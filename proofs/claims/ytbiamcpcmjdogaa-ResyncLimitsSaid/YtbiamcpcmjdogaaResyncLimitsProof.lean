/-
  the targets in use are the document's
-/
import Derived.Test.YtbiamcpcmjdogaaRows
import Derived.Test.YtbiamcpcmjdogaaBase
import Derived.Test.YtbiamcpcmjdogaaResd
import Derived.WalkKit
import Derived.ProofKit
import Derived.OpenShut
namespace Go.Proofs.Ytbiamcpcmjdogaa.resyncLimits
open Go.ChangeShapes Go.WideShapes Go.ChangeAt Go.RowKit
open Go.ChangeMaps (open_string shut_string)
set_option linter.unusedVariables false
set_option linter.unusedSimpArgs false

theorem own : ownKnob Try.prog.godebug = none := by kernel_rfl
theorem laidOut : laidOutB Try.prog = true := by kernel_rfl

set_option maxRecDepth 100000 in
theorem lifted (os : Os) (started : os.Started) (H : Type) (enc : TypeId × Value → H) :
    ReturnsInHanded {} Try.checked os 3 .any (Rows.resyncLimitsSpec.pre6 enc Try.prog Try.f3 Rows.resyncLimitsRow.domain false) (Rows.resyncLimitsSpec.post enc Try.prog Try.f3 false true false false) := by
  refine returnsInHanded_of_change (C := Try.checked) own started (by kernel_rfl) Try.func3
    (ChangeSpec.witness6 (enc := enc) (C := Try.checked) false ⟨#[], #[.agg #[.int .u8 0, .int .u8 0, .int .u8 0, .int .i64 0, .int .i64 0, .int .i64 0, .int .i64 0], .agg #[.int .u8 0, .int .u8 0, .int .u8 0, .int .i64 0, .int .i64 0, .int .i64 0, .int .i64 0], .agg #[.int .i64 0, .int .i64 0, .int .i64 0, .int .i64 0]], []⟩ 12 (by kernel_rfl) (by kernel_rfl) (by kernel_rfl) (by kernel_rfl)) ?_
  intro W base args ds gs before hval0 hW hcnd _
  have hval : ∀ (j : Nat) t v, Try.f3.params[j]? = some t → args[j]? = some v → Value.okWide Try.prog W .any base t v := hval0
  have hW' := hW
  obtain ⟨p, q, hA0, hV, rfl, hfz, hnd⟩ := hW
  have hA : DataW.TrodAll enc Try.prog W 0 (fun _ => true) true Try.f3.params.toList args.toList ds p := hA0
  rw [Try.params3] at hA hval
  obtain ⟨v0, vs0, d0, ds0, p0, q0, hargs, rfl, rfl, h0, r0⟩ := trodAll_cons hA
  obtain ⟨v1, vs1, d1, ds1, p1, q1, rfl, rfl, rfl, h1, r1⟩ := trodAll_cons r0
  obtain ⟨v2, vs2, d2, ds2, p2, q2, rfl, rfl, rfl, h2, r2⟩ := trodAll_cons r1
  obtain ⟨rfl, rfl, rfl⟩ := trodAll_nil r2
  obtain rfl : args = #[v0, v1, v2] := by cases args; simp_all
  obtain ⟨rfl, rfl⟩ := trodVars_none hV
  obtain ⟨cs0, rfl, z0⟩ := agg_of (by kernel_rfl) (hval 0 23 v0 rfl rfl)
  obtain ⟨a0_0, e0_0, w0_0⟩ := leaf_int (l := 5) (k := .u8) (t := 23) (o := 0) (by kernel_rfl) (by kernel_rfl) h0
  obtain ⟨a0_1, e0_1, w0_1⟩ := leaf_int (l := 5) (k := .u8) (t := 23) (o := 1) (by kernel_rfl) (by kernel_rfl) h0
  obtain ⟨a0_2, e0_2, w0_2⟩ := leaf_int (l := 5) (k := .u8) (t := 23) (o := 2) (by kernel_rfl) (by kernel_rfl) h0
  obtain ⟨a0_3, e0_3, w0_3⟩ := leaf_int (l := 2) (k := .i64) (t := 23) (o := 3) (by kernel_rfl) (by kernel_rfl) h0
  obtain ⟨a0_4, e0_4, w0_4⟩ := leaf_int (l := 2) (k := .i64) (t := 23) (o := 4) (by kernel_rfl) (by kernel_rfl) h0
  obtain ⟨a0_5, e0_5, w0_5⟩ := leaf_int (l := 2) (k := .i64) (t := 23) (o := 5) (by kernel_rfl) (by kernel_rfl) h0
  obtain ⟨a0_6, e0_6, w0_6⟩ := leaf_int (l := 2) (k := .i64) (t := 23) (o := 6) (by kernel_rfl) (by kernel_rfl) h0
  obtain rfl : cs0 = #[.int .u8 a0_0, .int .u8 a0_1, .int .u8 a0_2, .int .i64 a0_3, .int .i64 a0_4, .int .i64 a0_5, .int .i64 a0_6] := row_of [.int .u8 a0_0, .int .u8 a0_1, .int .u8 a0_2, .int .i64 a0_3, .int .i64 a0_4, .int .i64 a0_5, .int .i64 a0_6] (z0.trans (by kernel_rfl)) (fun i hi => by match i, hi with | 0, _ => exact e0_0 | 1, _ => exact e0_1 | 2, _ => exact e0_2 | 3, _ => exact e0_3 | 4, _ => exact e0_4 | 5, _ => exact e0_5 | 6, _ => exact e0_6)
  obtain ⟨cs1, rfl, z1⟩ := agg_of (by kernel_rfl) (hval 1 23 v1 rfl rfl)
  obtain ⟨a1_0, e1_0, w1_0⟩ := leaf_int (l := 5) (k := .u8) (t := 23) (o := 0) (by kernel_rfl) (by kernel_rfl) h1
  obtain ⟨a1_1, e1_1, w1_1⟩ := leaf_int (l := 5) (k := .u8) (t := 23) (o := 1) (by kernel_rfl) (by kernel_rfl) h1
  obtain ⟨a1_2, e1_2, w1_2⟩ := leaf_int (l := 5) (k := .u8) (t := 23) (o := 2) (by kernel_rfl) (by kernel_rfl) h1
  obtain ⟨a1_3, e1_3, w1_3⟩ := leaf_int (l := 2) (k := .i64) (t := 23) (o := 3) (by kernel_rfl) (by kernel_rfl) h1
  obtain ⟨a1_4, e1_4, w1_4⟩ := leaf_int (l := 2) (k := .i64) (t := 23) (o := 4) (by kernel_rfl) (by kernel_rfl) h1
  obtain ⟨a1_5, e1_5, w1_5⟩ := leaf_int (l := 2) (k := .i64) (t := 23) (o := 5) (by kernel_rfl) (by kernel_rfl) h1
  obtain ⟨a1_6, e1_6, w1_6⟩ := leaf_int (l := 2) (k := .i64) (t := 23) (o := 6) (by kernel_rfl) (by kernel_rfl) h1
  obtain rfl : cs1 = #[.int .u8 a1_0, .int .u8 a1_1, .int .u8 a1_2, .int .i64 a1_3, .int .i64 a1_4, .int .i64 a1_5, .int .i64 a1_6] := row_of [.int .u8 a1_0, .int .u8 a1_1, .int .u8 a1_2, .int .i64 a1_3, .int .i64 a1_4, .int .i64 a1_5, .int .i64 a1_6] (z1.trans (by kernel_rfl)) (fun i hi => by match i, hi with | 0, _ => exact e1_0 | 1, _ => exact e1_1 | 2, _ => exact e1_2 | 3, _ => exact e1_3 | 4, _ => exact e1_4 | 5, _ => exact e1_5 | 6, _ => exact e1_6)
  obtain ⟨cs2, rfl, z2⟩ := agg_of (by kernel_rfl) (hval 2 25 v2 rfl rfl)
  obtain ⟨a2_0, e2_0, w2_0⟩ := leaf_int (l := 2) (k := .i64) (t := 25) (o := 0) (by kernel_rfl) (by kernel_rfl) h2
  obtain ⟨a2_1, e2_1, w2_1⟩ := leaf_int (l := 2) (k := .i64) (t := 25) (o := 1) (by kernel_rfl) (by kernel_rfl) h2
  obtain ⟨a2_2, e2_2, w2_2⟩ := leaf_int (l := 2) (k := .i64) (t := 25) (o := 2) (by kernel_rfl) (by kernel_rfl) h2
  obtain ⟨a2_3, e2_3, w2_3⟩ := leaf_int (l := 2) (k := .i64) (t := 25) (o := 3) (by kernel_rfl) (by kernel_rfl) h2
  obtain rfl : cs2 = #[.int .i64 a2_0, .int .i64 a2_1, .int .i64 a2_2, .int .i64 a2_3] := row_of [.int .i64 a2_0, .int .i64 a2_1, .int .i64 a2_2, .int .i64 a2_3] (z2.trans (by kernel_rfl)) (fun i hi => by match i, hi with | 0, _ => exact e2_0 | 1, _ => exact e2_1 | 2, _ => exact e2_2 | 3, _ => exact e2_3)
  clear hA0 hval0
  refine (law_limits a0_0 a0_1 a0_2 a0_3 a0_4 a0_5 a0_6 a1_0 a1_1 a1_2 a1_3 a1_4 a1_5 a1_6 a2_0 a2_1 a2_2 a2_3 (bd_u8 w0_0).1 (bd_u8 w0_0).2 (bd_u8 w0_1).1 (bd_u8 w0_1).2 (bd_u8 w0_2).1 (bd_u8 w0_2).2 (bd_i64 w0_3).1 (bd_i64 w0_3).2 (bd_i64 w0_4).1 (bd_i64 w0_4).2 (bd_i64 w0_5).1 (bd_i64 w0_5).2 (bd_i64 w0_6).1 (bd_i64 w0_6).2 (bd_u8 w1_0).1 (bd_u8 w1_0).2 (bd_u8 w1_1).1 (bd_u8 w1_1).2 (bd_u8 w1_2).1 (bd_u8 w1_2).2 (bd_i64 w1_3).1 (bd_i64 w1_3).2 (bd_i64 w1_4).1 (bd_i64 w1_4).2 (bd_i64 w1_5).1 (bd_i64 w1_5).2 (bd_i64 w1_6).1 (bd_i64 w1_6).2 (bd_i64 w2_0).1 (bd_i64 w2_0).2 (bd_i64 w2_1).1 (bd_i64 w2_1).2 (bd_i64 w2_2).1 (bd_i64 w2_2).2 (bd_i64 w2_3).1 (bd_i64 w2_3).2 W ).mono fun e W' ⟨he, hg⟩ => ?_
  subst he
  exact ⟨_, rfl, law_post (tb := 4) laidOut (by kernel_rfl) (by kernel_rfl) (by kernel_rfl) rfl hW' ⟨rfl, rfl, rfl⟩ (hg)⟩

theorem over : Rows.resyncLimitsRow.holds Try.pinned (OpenSpec.ofChange Rows.resyncLimitsSpec) :=
  OpenClaim.holds_of_wide 3 Try.f3 rfl rfl rfl rfl rfl rfl rfl ⟨rfl, rfl, rfl, rfl, rfl⟩ rfl rfl rfl rfl rfl (by kernel_rfl) Try.func3 (by kernel_rfl)
    (of_decide_eq_true (by kernel_rfl)) (by unfold Func.isWrapper; first | (rw [if_pos (by decide +kernel)]; kernel_rfl) | (rw [if_neg (by decide +kernel)]; exact ⟨rfl, rfl⟩))
    (fun os started H enc _ => lifted os started H enc)

theorem proved : Rows.ResyncLimitsSaid :=
  over
end Go.Proofs.Ytbiamcpcmjdogaa.resyncLimits
