/-
  Intervals of what is left of fuel, and what is needed for flows one after the other, are the specified ones, for every input; no condition.
-/
import Derived.Test.YtcchhmekmoekeaaRows
import Derived.Test.YtcchhmekmoekeaaBase
import Derived.Test.YtcchhmekmoekeaaSlice
import Derived.Test.YtcchhmekmoekeaaFuelu
import Derived.WalkKit
import Derived.ProofKit
import Derived.OpenShut
namespace Go.Proofs.Ytcchhmekmoekeaa.fuelIntervals
open Go.ChangeShapes Go.WideShapes Go.ChangeAt Go.RowKit
open Go.ChangeMaps (open_string shut_string)
set_option linter.unusedVariables false
set_option linter.unusedSimpArgs false

theorem own : ownKnob Try.prog.godebug = none := by kernel_rfl
theorem laidOut : laidOutB Try.prog = true := by kernel_rfl

set_option maxRecDepth 100000 in
theorem lifted (os : Os) (started : os.Started) (H : Type) (enc : TypeId × Value → H) :
    ReturnsInHanded {} Try.checked os 5 .any (Rows.fuelIntervalsSpec.pre6 enc Try.prog Try.f5 Rows.fuelIntervalsRow.domain false) (Rows.fuelIntervalsSpec.post enc Try.prog Try.f5 false true false false) := by
  refine returnsInHanded_of_change (C := Try.checked) own started (by kernel_rfl) Try.func5
    (ChangeSpec.witness6 (enc := enc) (C := Try.checked) false ⟨#[], #[.agg #[.int .i64 0, .int .i64 0, .int .i64 0, .int .i64 0, .int .i64 0, .int .i64 0], .slice none 0 0, .slice none 0 0], []⟩ 12 (by kernel_rfl) (by kernel_rfl) (by kernel_rfl) (by kernel_rfl)) ?_
  intro W base args ds gs before hval0 hW hcnd _
  have hval : ∀ (j : Nat) t v, Try.f5.params[j]? = some t → args[j]? = some v → Value.okWide Try.prog W .any base t v := hval0
  have hW' := hW
  obtain ⟨p, q, hA0, hV, rfl, hfz, hnd⟩ := hW
  have hA : DataW.TrodAll enc Try.prog W 0 (fun _ => true) true Try.f5.params.toList args.toList ds p := hA0
  rw [Try.params5] at hA hval
  obtain ⟨v0, vs0, d0, ds0, p0, q0, hargs, rfl, rfl, h0, r0⟩ := trodAll_cons hA
  obtain ⟨v1, vs1, d1, ds1, p1, q1, rfl, rfl, rfl, h1, r1⟩ := trodAll_cons r0
  obtain ⟨v2, vs2, d2, ds2, p2, q2, rfl, rfl, rfl, h2, r2⟩ := trodAll_cons r1
  obtain ⟨rfl, rfl, rfl⟩ := trodAll_nil r2
  obtain rfl : args = #[v0, v1, v2] := by cases args; simp_all
  obtain ⟨rfl, rfl⟩ := trodVars_none hV
  obtain ⟨cs0, rfl, z0⟩ := agg_of (by kernel_rfl) (hval 0 37 v0 rfl rfl)
  obtain ⟨a0_0, e0_0, w0_0⟩ := leaf_int (l := 2) (k := .i64) (t := 37) (o := 0) (by kernel_rfl) (by kernel_rfl) h0
  obtain ⟨a0_1, e0_1, w0_1⟩ := leaf_int (l := 2) (k := .i64) (t := 37) (o := 1) (by kernel_rfl) (by kernel_rfl) h0
  obtain ⟨a0_2, e0_2, w0_2⟩ := leaf_int (l := 2) (k := .i64) (t := 37) (o := 2) (by kernel_rfl) (by kernel_rfl) h0
  obtain ⟨a0_3, e0_3, w0_3⟩ := leaf_int (l := 2) (k := .i64) (t := 37) (o := 3) (by kernel_rfl) (by kernel_rfl) h0
  obtain ⟨a0_4, e0_4, w0_4⟩ := leaf_int (l := 2) (k := .i64) (t := 37) (o := 4) (by kernel_rfl) (by kernel_rfl) h0
  obtain ⟨a0_5, e0_5, w0_5⟩ := leaf_int (l := 2) (k := .i64) (t := 37) (o := 5) (by kernel_rfl) (by kernel_rfl) h0
  obtain rfl : cs0 = #[.int .i64 a0_0, .int .i64 a0_1, .int .i64 a0_2, .int .i64 a0_3, .int .i64 a0_4, .int .i64 a0_5] := row_of [.int .i64 a0_0, .int .i64 a0_1, .int .i64 a0_2, .int .i64 a0_3, .int .i64 a0_4, .int .i64 a0_5] (z0.trans (by kernel_rfl)) (fun i hi => by match i, hi with | 0, _ => exact e0_0 | 1, _ => exact e0_1 | 2, _ => exact e0_2 | 3, _ => exact e0_3 | 4, _ => exact e0_4 | 5, _ => exact e0_5)
  obtain ⟨p1, n1, c1, rfl⟩ := okWide_slice Try.underlying38 (hval 1 38 v1 rfl rfl)
  obtain ⟨b1, o1, hl1, hm1, hp1, hF1⟩ := slice_leaf Try.underlying38 (by rw [show Try.prog.cellsOf 2 = 1 from by kernel_rfl]; decide) h1
  rw [show Try.prog.cellsOf 2 = 1 from by kernel_rfl] at hF1
  obtain ⟨F1_0, g1_0⟩ := hF1 0 2 .i64 (by kernel_rfl) (by kernel_rfl) (by decide)
  clear hF1
  obtain ⟨p2, n2, c2, rfl⟩ := okWide_slice Try.underlying38 (hval 2 38 v2 rfl rfl)
  obtain ⟨b2, o2, hl2, hm2, hp2, hF2⟩ := slice_leaf Try.underlying38 (by rw [show Try.prog.cellsOf 2 = 1 from by kernel_rfl]; decide) h2
  rw [show Try.prog.cellsOf 2 = 1 from by kernel_rfl] at hF2
  obtain ⟨F2_0, g2_0⟩ := hF2 0 2 .i64 (by kernel_rfl) (by kernel_rfl) (by decide)
  clear hF2
  clear hA0 hval0
  refine (law_intervals a0_0 a0_1 a0_2 a0_3 a0_4 a0_5 p1 n1 c1 b1 o1 F1_0 p2 n2 c2 b2 o2 F2_0 (bd_i64 w0_0).1 (bd_i64 w0_0).2 (bd_i64 w0_1).1 (bd_i64 w0_1).2 (bd_i64 w0_2).1 (bd_i64 w0_2).2 (bd_i64 w0_3).1 (bd_i64 w0_3).2 (bd_i64 w0_4).1 (bd_i64 w0_4).2 (bd_i64 w0_5).1 (bd_i64 w0_5).2 hl1 hm1 (fun i hi => bd_i64 (g1_0 i hi).2) hl2 hm2 (fun i hi => bd_i64 (g2_0 i hi).2) W hp1 (fun i hi => (g1_0 i hi).1) hp2 (fun i hi => (g2_0 i hi).1)).mono fun e W' ⟨he, hg⟩ => ?_
  subst he
  exact ⟨_, rfl, law_post (tb := 4) laidOut (by kernel_rfl) (by kernel_rfl) (by kernel_rfl) rfl hW' ⟨rfl, rfl, rfl⟩ (hg)⟩

theorem over : Rows.fuelIntervalsRow.holds Try.pinned (OpenSpec.ofChange Rows.fuelIntervalsSpec) :=
  OpenClaim.holds_of_wide 5 Try.f5 rfl rfl rfl rfl rfl rfl rfl ⟨rfl, rfl, rfl, rfl, rfl⟩ rfl rfl rfl rfl rfl (by kernel_rfl) Try.func5 (by kernel_rfl)
    (of_decide_eq_true (by kernel_rfl)) (by unfold Func.isWrapper; first | (rw [if_pos (by decide +kernel)]; kernel_rfl) | (rw [if_neg (by decide +kernel)]; exact ⟨rfl, rfl⟩))
    (fun os started H enc _ => lifted os started H enc)

theorem proved : Rows.FuelIntervalsSaid :=
  over
end Go.Proofs.Ytcchhmekmoekeaa.fuelIntervals
