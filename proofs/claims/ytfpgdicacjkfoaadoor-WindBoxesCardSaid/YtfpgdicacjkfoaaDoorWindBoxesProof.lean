/-
  The law WindBoxes of layer 13 (wind), for every input.
-/
import Derived.Test.YtfpgdicacjkfoaaDoorRows
import Derived.Test.YtfpgdicacjkfoaaDoorCards
import Derived.Test.YtfpgdicacjkfoaaDoorTie
import Derived.Test.YtfpgdicacjkfoaaDoorBase
import Derived.Test.YtfpgdicacjkfoaaDoorWinl
import Derived.Test.YtfpgdicacjkfoaaDoorWint
import Derived.WalkKit
import Derived.ProofKit
import Derived.OpenShut
import Derived.LaidMore
import Derived.Stop.Joined
import Derived.SevenTiedAt
namespace Go.Proofs.YtfpgdicacjkfoaaDoor.windBoxes
open Go Go.ChangeShapes Go.WideShapes Go.ChangeAt Go.RowKit
open Go.ChangeMaps (open_string shut_string)
set_option linter.unusedVariables false
set_option linter.unusedSimpArgs false

theorem own : ownKnob Tryd.prog.godebug = none := by kernel_rfl
theorem laidOut : laidOutB Tryd.prog = true := by kernel_rfl
theorem door_met (os : Os) (args : Array Value) : laidMetH Tryd.prog [("math/bits.deBruijn32tab", Rows.laid_math_bits_deBruijn32tab), ("math/bits.deBruijn64tab", Rows.laid_math_bits_deBruijn64tab), ("internal/strconv.uint64pow10", Rows.laid_internal_strconv_uint64pow10), ("strconv.ErrRange", Rows.laid_strconv_ErrRange), ("strconv.ErrSyntax", Rows.laid_strconv_ErrSyntax)] ((World.doorLaid Tryd.prog 400 os).forCall (fun _ _ => 0) ⟨#[], args, []⟩).memory :=
  laidMetH_of_parts3 (fuel := 8) (laidMet_of_run' 8 (by kernel_rfl) (by kernel_rfl)) (by kernel_rfl) (by kernel_rfl)

set_option maxRecDepth 100000 in
theorem lifted (os : Os) (started : os.Started) (H : Type) (enc : TypeId × Value → H) :
    ReturnsInHanded {} Tryd.checked os 6 .any (fun w args => (Rows.windBoxesSpec.pre enc Tryd.prog Tryd.f6 [] false w args ∧ laidMetH Tryd.prog [("math/bits.deBruijn32tab", Rows.laid_math_bits_deBruijn32tab), ("math/bits.deBruijn64tab", Rows.laid_math_bits_deBruijn64tab), ("internal/strconv.uint64pow10", Rows.laid_internal_strconv_uint64pow10), ("strconv.ErrRange", Rows.laid_strconv_ErrRange), ("strconv.ErrSyntax", Rows.laid_strconv_ErrSyntax)] w) ∧ sizedMet enc Tryd.prog Tryd.f6 (OpenSpec.ofChange Rows.windBoxesSpec) false w args) (Rows.windBoxesSpec.post enc Tryd.prog Tryd.f6 false true false false) := by
  refine returnsInHanded_of_change_and (C := Tryd.checked) (X := fun w _ => laidMetH Tryd.prog [("math/bits.deBruijn32tab", Rows.laid_math_bits_deBruijn32tab), ("math/bits.deBruijn64tab", Rows.laid_math_bits_deBruijn64tab), ("internal/strconv.uint64pow10", Rows.laid_internal_strconv_uint64pow10), ("strconv.ErrRange", Rows.laid_strconv_ErrRange), ("strconv.ErrSyntax", Rows.laid_strconv_ErrSyntax)] w) (fun _ _ _ hh h => h.of_heap hh) own started (by kernel_rfl) Tryd.func6
    (ChangeSpec.witness_shaped (enc := enc) (C := Tryd.checked) (os := os) (X := fun w _ => laidMetH Tryd.prog [("math/bits.deBruijn32tab", Rows.laid_math_bits_deBruijn32tab), ("math/bits.deBruijn64tab", Rows.laid_math_bits_deBruijn64tab), ("internal/strconv.uint64pow10", Rows.laid_internal_strconv_uint64pow10), ("strconv.ErrRange", Rows.laid_strconv_ErrRange), ("strconv.ErrSyntax", Rows.laid_strconv_ErrSyntax)] w) false (World.doorLaid Tryd.prog 400 os) #[.agg #[.int .i64 0, .int .i64 0], .agg #[.int .i64 0, .int .i64 0], .int .i64 0] 12 rfl (World.shaped_of_RefB (by kernel_rfl) (by kernel_rfl)) (by kernel_rfl) (by kernel_rfl) (by kernel_rfl) (door_met os _)) ?_
  intro W base args ds gs before hval0 hW _ _ hL _
  have hval : ∀ (j : Nat) t v, Tryd.f6.params[j]? = some t → args[j]? = some v → Value.okWide Tryd.prog W .any base t v := hval0
  have hW' := hW
  obtain ⟨p, q, hA0, hV, rfl, hfz, hnd⟩ := hW
  have hA : DataW.TrodAll enc Tryd.prog W 0 (fun _ => true) true Tryd.f6.params.toList args.toList ds p := hA0
  rw [Tryd.params6] at hA hval
  obtain ⟨v0, vs0, d0, ds0, p0, q0, hargs, rfl, rfl, h0, r0⟩ := trodAll_cons hA
  obtain ⟨v1, vs1, d1, ds1, p1, q1, rfl, rfl, rfl, h1, r1⟩ := trodAll_cons r0
  obtain ⟨v2, vs2, d2, ds2, p2, q2, rfl, rfl, rfl, h2, r2⟩ := trodAll_cons r1
  obtain ⟨rfl, rfl, rfl⟩ := trodAll_nil r2
  obtain rfl : args = #[v0, v1, v2] := by cases args; simp_all
  obtain ⟨rfl, rfl⟩ := trodVars_none hV
  obtain ⟨cs0, rfl, z0⟩ := agg_of (by kernel_rfl) (hval 0 25 v0 rfl rfl)
  obtain ⟨a0_0, e0_0, w0_0⟩ := leaf_int (l := 2) (k := .i64) (t := 25) (o := 0) (by kernel_rfl) (by kernel_rfl) h0
  obtain ⟨a0_1, e0_1, w0_1⟩ := leaf_int (l := 2) (k := .i64) (t := 25) (o := 1) (by kernel_rfl) (by kernel_rfl) h0
  obtain rfl : cs0 = #[.int .i64 a0_0, .int .i64 a0_1] := row_of [.int .i64 a0_0, .int .i64 a0_1] (z0.trans (by kernel_rfl)) (fun i hi => by match i, hi with | 0, _ => exact e0_0 | 1, _ => exact e0_1)
  obtain ⟨cs1, rfl, z1⟩ := agg_of (by kernel_rfl) (hval 1 25 v1 rfl rfl)
  obtain ⟨a1_0, e1_0, w1_0⟩ := leaf_int (l := 2) (k := .i64) (t := 25) (o := 0) (by kernel_rfl) (by kernel_rfl) h1
  obtain ⟨a1_1, e1_1, w1_1⟩ := leaf_int (l := 2) (k := .i64) (t := 25) (o := 1) (by kernel_rfl) (by kernel_rfl) h1
  obtain rfl : cs1 = #[.int .i64 a1_0, .int .i64 a1_1] := row_of [.int .i64 a1_0, .int .i64 a1_1] (z1.trans (by kernel_rfl)) (fun i hi => by match i, hi with | 0, _ => exact e1_0 | 1, _ => exact e1_1)
  obtain ⟨a2, rfl, rfl, rfl, w2⟩ := open_int Tryd.underlying2 (hval 2 2 v2 rfl rfl) h2
  have hT := Lib.hid (p10_of hL)
  clear hA0 hval0 hL
  refine (law_boxes a0_0 a0_1 a1_0 a1_1 a2 (bd_i64 w0_0).1 (bd_i64 w0_0).2 (bd_i64 w0_1).1 (bd_i64 w0_1).2 (bd_i64 w1_0).1 (bd_i64 w1_0).2 (bd_i64 w1_1).1 (bd_i64 w1_1).2 (bd_i64 w2).1 (bd_i64 w2).2 W hT ).mono fun e W' ⟨he, hg⟩ => ?_
  subst he
  exact ⟨_, rfl, law_post (tb := 4) laidOut (by kernel_rfl) (by kernel_rfl) (by kernel_rfl) rfl hW' ⟨rfl, rfl, rfl⟩ (hg)⟩

theorem over : Rows.windBoxesRow.holds Tryd.pinned (OpenSpec.ofChange Rows.windBoxesSpec) :=
  OpenClaim.holds_of_wide 6 Tryd.f6 rfl rfl rfl rfl rfl rfl rfl ⟨rfl, rfl, rfl, rfl, rfl⟩ rfl rfl rfl rfl rfl (by kernel_rfl) Tryd.func6 (by kernel_rfl)
    (of_decide_eq_true (by kernel_rfl)) (by unfold Func.isWrapper; first | (rw [if_pos (by decide +kernel)]; kernel_rfl) | (rw [if_neg (by decide +kernel)]; exact ⟨rfl, rfl⟩))
    (fun os started H enc _ => lifted os started H enc)

theorem proved : Rows.WindBoxesCardSaid :=
  Claim7.holds_tied_plain_at .later [] [.data, .data, .data, .sentinel, .sentinel] true (true, "255cfe2bdcc86939add730a7cc2e1cb1ec0da4f0824ad3d48a6d831e98b90929") true
    over (fun _ h => by cases h) (by kernel_rfl) (fun _ h => by cases h) windBoxes_row_tie rfl ⟨rfl, rfl⟩ (by kernel_rfl) rfl
    (fun f fn hf hfn => by
      obtain rfl : f = 6 := Option.some.inj ((show Tryd.prog.funcNamed "flightdeck/flightdecklaw13.WindBoxes" = some 6 by kernel_rfl).symm.trans hf) |>.symm
      obtain rfl : fn = Tryd.f6 := (Option.some.inj (Tryd.func6.symm.trans hfn)).symm
      exact ⟨by kernel_rfl, fun j t ht => by
        rw [Tryd.params6] at ht
        have hm : t ∈ [25, 25, 2] := by simpa using Array.mem_of_getElem? ht
        have hall : ([25, 25, 2].all fun u => !Tryd.prog.wantsStandIn u) = true := by kernel_rfl
        exact (show Tryd.prog.wantsStandIn t = false by simpa using List.all_eq_true.1 hall t hm)⟩)
    (by kernel_rfl)
end Go.Proofs.YtfpgdicacjkfoaaDoor.windBoxes
