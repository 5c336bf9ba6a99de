/-
  Measurements of layer 42 that hold exactly for a point have it as their solution, with the residual 0. No condition.
-/
import Derived.Test.YtoegcfdlecbcjaaRows
import Derived.Test.YtoegcfdlecbcjaaBase
import Derived.Test.YtoegcfdlecbcjaaSlice
import Derived.Test.YtoegcfdlecbcjaaLsqex
import Derived.WalkKit
import Derived.ProofKit
import Derived.OpenShut
namespace Go.Proofs.Ytoegcfdlecbcjaa.lsqExact
open Go.ChangeShapes Go.WideShapes Go.ChangeAt Go.RowKit
open Go.ChangeMaps (open_string shut_string)
set_option linter.unusedVariables false
set_option linter.unusedSimpArgs false

theorem own : ownKnob Try.prog.godebug = none := by kernel_rfl
theorem laidOut : laidOutB Try.prog = true := by kernel_rfl

set_option maxRecDepth 100000 in
theorem lifted (os : Os) (started : os.Started) (H : Type) (enc : TypeId × Value → H) :
    ReturnsInHanded {} Try.checked os 9 .any (Rows.lsqExactSpec.pre6 enc Try.prog Try.f9 Rows.lsqExactRow.domain false) (Rows.lsqExactSpec.post enc Try.prog Try.f9 false true false false) := by
  refine returnsInHanded_of_change (C := Try.checked) own started (by kernel_rfl) Try.func9
    (ChangeSpec.witness6 (enc := enc) (C := Try.checked) false ⟨#[], #[.slice none 0 0, .agg #[.int .i64 0, .int .i64 0]], []⟩ 12 (by kernel_rfl) (by kernel_rfl) (by kernel_rfl) (by kernel_rfl)) ?_
  intro W base args ds gs before hval0 hW hcnd _
  have hval : ∀ (j : Nat) t v, Try.f9.params[j]? = some t → args[j]? = some v → Value.okWide Try.prog W .any base t v := hval0
  have hW' := hW
  obtain ⟨p, q, hA0, hV, rfl, hfz, hnd⟩ := hW
  have hA : DataW.TrodAll enc Try.prog W 0 (fun _ => true) true Try.f9.params.toList args.toList ds p := hA0
  rw [Try.params9] at hA hval
  obtain ⟨v0, vs0, d0, ds0, p0, q0, hargs, rfl, rfl, h0, r0⟩ := trodAll_cons hA
  obtain ⟨v1, vs1, d1, ds1, p1, q1, rfl, rfl, rfl, h1, r1⟩ := trodAll_cons r0
  obtain ⟨rfl, rfl, rfl⟩ := trodAll_nil r1
  obtain rfl : args = #[v0, v1] := by cases args; simp_all
  obtain ⟨rfl, rfl⟩ := trodVars_none hV
  obtain ⟨p0, n0, c0, rfl⟩ := okWide_slice Try.underlying22 (hval 0 22 v0 rfl rfl)
  obtain ⟨b0, o0, hl0, hm0, hp0, hF0⟩ := slice_leaf Try.underlying22 (by rw [show Try.prog.cellsOf 44 = 6 from by kernel_rfl]; decide) h0
  rw [show Try.prog.cellsOf 44 = 6 from by kernel_rfl] at hF0
  obtain ⟨F0_0, g0_0⟩ := hF0 0 3 .i64 (by kernel_rfl) (by kernel_rfl) (by decide)
  obtain ⟨F0_1, g0_1⟩ := hF0 1 2 .i64 (by kernel_rfl) (by kernel_rfl) (by decide)
  obtain ⟨F0_2, g0_2⟩ := hF0 2 2 .i64 (by kernel_rfl) (by kernel_rfl) (by decide)
  obtain ⟨F0_3, g0_3⟩ := hF0 3 2 .i64 (by kernel_rfl) (by kernel_rfl) (by decide)
  obtain ⟨F0_4, g0_4⟩ := hF0 4 2 .i64 (by kernel_rfl) (by kernel_rfl) (by decide)
  obtain ⟨F0_5, g0_5⟩ := hF0 5 2 .i64 (by kernel_rfl) (by kernel_rfl) (by decide)
  clear hF0
  obtain ⟨cs1, rfl, z1⟩ := agg_of (by kernel_rfl) (hval 1 36 v1 rfl rfl)
  obtain ⟨a1_0, e1_0, w1_0⟩ := leaf_int (l := 2) (k := .i64) (t := 36) (o := 0) (by kernel_rfl) (by kernel_rfl) h1
  obtain ⟨a1_1, e1_1, w1_1⟩ := leaf_int (l := 2) (k := .i64) (t := 36) (o := 1) (by kernel_rfl) (by kernel_rfl) h1
  obtain rfl : cs1 = #[.int .i64 a1_0, .int .i64 a1_1] := row_of [.int .i64 a1_0, .int .i64 a1_1] (z1.trans (by kernel_rfl)) (fun i hi => by match i, hi with | 0, _ => exact e1_0 | 1, _ => exact e1_1)
  clear hA0 hval0
  refine (law_LsqExact p0 n0 c0 b0 o0 F0_0 F0_1 F0_2 F0_3 F0_4 F0_5 a1_0 a1_1 hl0 hm0 (fun i hi => bd_i64 (g0_0 i hi).2) (fun i hi => bd_i64 (g0_1 i hi).2) (fun i hi => bd_i64 (g0_2 i hi).2) (fun i hi => bd_i64 (g0_3 i hi).2) (fun i hi => bd_i64 (g0_4 i hi).2) (fun i hi => bd_i64 (g0_5 i hi).2) (bd_i64 w1_0).1 (bd_i64 w1_0).2 (bd_i64 w1_1).1 (bd_i64 w1_1).2 W hp0 (fun i hi => (g0_0 i hi).1) (fun i hi => (g0_1 i hi).1) (fun i hi => (g0_2 i hi).1) (fun i hi => (g0_3 i hi).1) (fun i hi => (g0_4 i hi).1) (fun i hi => (g0_5 i hi).1)).mono fun e W' ⟨he, hg⟩ => ?_
  subst he
  exact ⟨_, rfl, law_post (tb := 4) laidOut (by kernel_rfl) (by kernel_rfl) (by kernel_rfl) rfl hW' ⟨rfl, rfl, rfl⟩ (hg)⟩

theorem over : Rows.lsqExactRow.holds Try.pinned (OpenSpec.ofChange Rows.lsqExactSpec) :=
  OpenClaim.holds_of_wide 9 Try.f9 rfl rfl rfl rfl rfl rfl rfl ⟨rfl, rfl, rfl, rfl, rfl⟩ rfl rfl rfl rfl rfl (by kernel_rfl) Try.func9 (by kernel_rfl)
    (of_decide_eq_true (by kernel_rfl)) (by unfold Func.isWrapper; first | (rw [if_pos (by decide +kernel)]; kernel_rfl) | (rw [if_neg (by decide +kernel)]; exact ⟨rfl, rfl⟩))
    (fun os started H enc _ => lifted os started H enc)

theorem proved : Rows.LsqExactSaid :=
  over
end Go.Proofs.Ytoegcfdlecbcjaa.lsqExact
