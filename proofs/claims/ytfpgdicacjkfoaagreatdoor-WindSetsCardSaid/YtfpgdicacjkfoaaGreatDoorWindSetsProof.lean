/-
  The law WindSets of layer 13 (wind), for every input.
-/
import Derived.Test.YtfpgdicacjkfoaaGreatDoorRows
import Derived.Test.YtfpgdicacjkfoaaGreatDoorCards
import Derived.Test.YtfpgdicacjkfoaaGreatDoorTie
import Derived.Test.YtfpgdicacjkfoaaGreatDoorBase
import Derived.Test.YtfpgdicacjkfoaaGreatDoorWiny
import Derived.Test.YtfpgdicacjkfoaaGreatDoorWint
import Derived.WalkKit
import Derived.ProofKit
import Derived.OpenShut
import Derived.LaidMore
import Derived.Stop.Joined
import Derived.SevenTiedAt
namespace Go.Proofs.YtfpgdicacjkfoaaGreatDoor.windSets
open Go Go.ChangeShapes Go.WideShapes Go.ChangeAt Go.RowKit
open Go.ChangeMaps (open_string shut_string)
set_option linter.unusedVariables false
set_option linter.unusedSimpArgs false

theorem own : ownKnob Tryz.prog.godebug = none := by kernel_rfl
theorem laidOut : laidOutB Tryz.prog = true := by kernel_rfl
theorem door_met (os : Os) (args : Array Value) : laidMetH Tryz.prog [("math/bits.deBruijn32tab", Rows.laid_math_bits_deBruijn32tab), ("math/bits.deBruijn64tab", Rows.laid_math_bits_deBruijn64tab), ("internal/strconv.uint64pow10", Rows.laid_internal_strconv_uint64pow10), ("strconv.ErrRange", Rows.laid_strconv_ErrRange), ("strconv.ErrSyntax", Rows.laid_strconv_ErrSyntax)] ((World.doorLaid Tryz.prog 400 os).forCall (fun _ _ => 0) ⟨#[], args, []⟩).memory :=
  laidMetH_of_parts3 (fuel := 8) (laidMet_of_run' 8 (by kernel_rfl) (by kernel_rfl)) (by kernel_rfl) (by kernel_rfl)

set_option maxRecDepth 100000 in
theorem lifted (os : Os) (started : os.Started) (H : Type) (enc : TypeId × Value → H) :
    ReturnsInHanded {} Tryz.checked os 5 .any (fun w args => (Rows.windSetsSpec.pre enc Tryz.prog Tryz.f5 [] false w args ∧ laidMetH Tryz.prog [("math/bits.deBruijn32tab", Rows.laid_math_bits_deBruijn32tab), ("math/bits.deBruijn64tab", Rows.laid_math_bits_deBruijn64tab), ("internal/strconv.uint64pow10", Rows.laid_internal_strconv_uint64pow10), ("strconv.ErrRange", Rows.laid_strconv_ErrRange), ("strconv.ErrSyntax", Rows.laid_strconv_ErrSyntax)] w) ∧ sizedMet enc Tryz.prog Tryz.f5 (OpenSpec.ofChange Rows.windSetsSpec) false w args) (Rows.windSetsSpec.post enc Tryz.prog Tryz.f5 false true false false) := by
  refine returnsInHanded_of_change_and (C := Tryz.checked) (X := fun w _ => laidMetH Tryz.prog [("math/bits.deBruijn32tab", Rows.laid_math_bits_deBruijn32tab), ("math/bits.deBruijn64tab", Rows.laid_math_bits_deBruijn64tab), ("internal/strconv.uint64pow10", Rows.laid_internal_strconv_uint64pow10), ("strconv.ErrRange", Rows.laid_strconv_ErrRange), ("strconv.ErrSyntax", Rows.laid_strconv_ErrSyntax)] w) (fun _ _ _ hh h => h.of_heap hh) own started (by kernel_rfl) Tryz.func5
    (ChangeSpec.witness_shaped (enc := enc) (C := Tryz.checked) (os := os) (X := fun w _ => laidMetH Tryz.prog [("math/bits.deBruijn32tab", Rows.laid_math_bits_deBruijn32tab), ("math/bits.deBruijn64tab", Rows.laid_math_bits_deBruijn64tab), ("internal/strconv.uint64pow10", Rows.laid_internal_strconv_uint64pow10), ("strconv.ErrRange", Rows.laid_strconv_ErrRange), ("strconv.ErrSyntax", Rows.laid_strconv_ErrSyntax)] w) false (World.doorLaid Tryz.prog 400 os) #[.int .i64 0, .agg #[.int .i64 0, .int .i64 0, .int .i64 0, .int .i64 0, .int .i64 0], .agg #[.int .i64 0, .int .i64 0, .int .i64 0, .int .i64 0]] 12 rfl (World.shaped_of_RefB (by kernel_rfl) (by kernel_rfl)) (by kernel_rfl) (by kernel_rfl) (by kernel_rfl) (door_met os _)) ?_
  intro W base args ds gs before hval0 hW _ _ hL _
  have hval : ∀ (j : Nat) t v, Tryz.f5.params[j]? = some t → args[j]? = some v → Value.okWide Tryz.prog W .any base t v := hval0
  have hW' := hW
  obtain ⟨p, q, hA0, hV, rfl, hfz, hnd⟩ := hW
  have hA : DataW.TrodAll enc Tryz.prog W 0 (fun _ => true) true Tryz.f5.params.toList args.toList ds p := hA0
  rw [Tryz.params5] at hA hval
  obtain ⟨v0, vs0, d0, ds0, p0, q0, hargs, rfl, rfl, h0, r0⟩ := trodAll_cons hA
  obtain ⟨v1, vs1, d1, ds1, p1, q1, rfl, rfl, rfl, h1, r1⟩ := trodAll_cons r0
  obtain ⟨v2, vs2, d2, ds2, p2, q2, rfl, rfl, rfl, h2, r2⟩ := trodAll_cons r1
  obtain ⟨rfl, rfl, rfl⟩ := trodAll_nil r2
  obtain rfl : args = #[v0, v1, v2] := by cases args; simp_all
  obtain ⟨rfl, rfl⟩ := trodVars_none hV
  obtain ⟨a0, rfl, rfl, rfl, w0⟩ := open_int Tryz.underlying2 (hval 0 2 v0 rfl rfl) h0
  obtain ⟨cs1, rfl, z1⟩ := agg_of (by kernel_rfl) (hval 1 38 v1 rfl rfl)
  obtain ⟨a1_0, e1_0, w1_0⟩ := leaf_int (l := 2) (k := .i64) (t := 38) (o := 0) (by kernel_rfl) (by kernel_rfl) h1
  obtain ⟨a1_1, e1_1, w1_1⟩ := leaf_int (l := 2) (k := .i64) (t := 38) (o := 1) (by kernel_rfl) (by kernel_rfl) h1
  obtain ⟨a1_2, e1_2, w1_2⟩ := leaf_int (l := 2) (k := .i64) (t := 38) (o := 2) (by kernel_rfl) (by kernel_rfl) h1
  obtain ⟨a1_3, e1_3, w1_3⟩ := leaf_int (l := 2) (k := .i64) (t := 38) (o := 3) (by kernel_rfl) (by kernel_rfl) h1
  obtain ⟨a1_4, e1_4, w1_4⟩ := leaf_int (l := 2) (k := .i64) (t := 38) (o := 4) (by kernel_rfl) (by kernel_rfl) h1
  obtain rfl : cs1 = #[.int .i64 a1_0, .int .i64 a1_1, .int .i64 a1_2, .int .i64 a1_3, .int .i64 a1_4] := row_of [.int .i64 a1_0, .int .i64 a1_1, .int .i64 a1_2, .int .i64 a1_3, .int .i64 a1_4] (z1.trans (by kernel_rfl)) (fun i hi => by match i, hi with | 0, _ => exact e1_0 | 1, _ => exact e1_1 | 2, _ => exact e1_2 | 3, _ => exact e1_3 | 4, _ => exact e1_4)
  obtain ⟨cs2, rfl, z2⟩ := agg_of (by kernel_rfl) (hval 2 40 v2 rfl rfl)
  obtain ⟨a2_0, e2_0, w2_0⟩ := leaf_int (l := 2) (k := .i64) (t := 40) (o := 0) (by kernel_rfl) (by kernel_rfl) h2
  obtain ⟨a2_1, e2_1, w2_1⟩ := leaf_int (l := 2) (k := .i64) (t := 40) (o := 1) (by kernel_rfl) (by kernel_rfl) h2
  obtain ⟨a2_2, e2_2, w2_2⟩ := leaf_int (l := 2) (k := .i64) (t := 40) (o := 2) (by kernel_rfl) (by kernel_rfl) h2
  obtain ⟨a2_3, e2_3, w2_3⟩ := leaf_int (l := 2) (k := .i64) (t := 40) (o := 3) (by kernel_rfl) (by kernel_rfl) h2
  obtain rfl : cs2 = #[.int .i64 a2_0, .int .i64 a2_1, .int .i64 a2_2, .int .i64 a2_3] := row_of [.int .i64 a2_0, .int .i64 a2_1, .int .i64 a2_2, .int .i64 a2_3] (z2.trans (by kernel_rfl)) (fun i hi => by match i, hi with | 0, _ => exact e2_0 | 1, _ => exact e2_1 | 2, _ => exact e2_2 | 3, _ => exact e2_3)
  have hT := Lib.hid (p10_of hL)
  clear hA0 hval0 hL
  refine (law_sets a0 a1_0 a1_1 a1_2 a1_3 a1_4 a2_0 a2_1 a2_2 a2_3 (bd_i64 w0).1 (bd_i64 w0).2 (bd_i64 w1_0).1 (bd_i64 w1_0).2 (bd_i64 w1_1).1 (bd_i64 w1_1).2 (bd_i64 w1_2).1 (bd_i64 w1_2).2 (bd_i64 w1_3).1 (bd_i64 w1_3).2 (bd_i64 w1_4).1 (bd_i64 w1_4).2 (bd_i64 w2_0).1 (bd_i64 w2_0).2 (bd_i64 w2_1).1 (bd_i64 w2_1).2 (bd_i64 w2_2).1 (bd_i64 w2_2).2 (bd_i64 w2_3).1 (bd_i64 w2_3).2 W hT ).mono fun e W' ⟨he, hg⟩ => ?_
  subst he
  exact ⟨_, rfl, law_post (tb := 4) laidOut (by kernel_rfl) (by kernel_rfl) (by kernel_rfl) rfl hW' ⟨rfl, rfl, rfl⟩ (hg)⟩

theorem over : Rows.windSetsRow.holds Tryz.pinned (OpenSpec.ofChange Rows.windSetsSpec) :=
  OpenClaim.holds_of_wide 5 Tryz.f5 rfl rfl rfl rfl rfl rfl rfl ⟨rfl, rfl, rfl, rfl, rfl⟩ rfl rfl rfl rfl rfl (by kernel_rfl) Tryz.func5 (by kernel_rfl)
    (of_decide_eq_true (by kernel_rfl)) (by unfold Func.isWrapper; first | (rw [if_pos (by decide +kernel)]; kernel_rfl) | (rw [if_neg (by decide +kernel)]; exact ⟨rfl, rfl⟩))
    (fun os started H enc _ => lifted os started H enc)

theorem proved : Rows.WindSetsCardSaid :=
  Claim7.holds_tied_plain_at .later [] [.data, .data, .data, .sentinel, .sentinel] true (true, "6532c2a573014083cfc5117a1095a9c989ae8e9ebe6bfa9d958917ab65d627a0") true
    over (fun _ h => by cases h) (by kernel_rfl) (fun _ h => by cases h) windSets_row_tie rfl ⟨rfl, rfl⟩ (by kernel_rfl) rfl
    (fun f fn hf hfn => by
      obtain rfl : f = 5 := Option.some.inj ((show Tryz.prog.funcNamed "flightdeck/flightdecklaw13.WindSets" = some 5 by kernel_rfl).symm.trans hf) |>.symm
      obtain rfl : fn = Tryz.f5 := (Option.some.inj (Tryz.func5.symm.trans hfn)).symm
      exact ⟨by kernel_rfl, fun j t ht => by
        rw [Tryz.params5] at ht
        have hm : t ∈ [2, 38, 40] := by simpa using Array.mem_of_getElem? ht
        have hall : ([2, 38, 40].all fun u => !Tryz.prog.wantsStandIn u) = true := by kernel_rfl
        exact (show Tryz.prog.wantsStandIn t = false by simpa using List.all_eq_true.1 hall t hm)⟩)
    (by kernel_rfl)
end Go.Proofs.YtfpgdicacjkfoaaGreatDoor.windSets
