/-
  The checksum of two strings follows from theirs and the length of the second one.
-/
import Derived.Test.YtbldklaipdbdjaaDoorRows
import Derived.Test.YtbldklaipdbdjaaDoorCards
import Derived.Test.YtbldklaipdbdjaaDoorTie
import Derived.Test.YtbldklaipdbdjaaDoorBase
import Derived.Test.YtbldklaipdbdjaaDoorSlice
import Derived.Test.YtbldklaipdbdjaaDoorCrcc
import Derived.WalkKit
import Derived.ProofKit
import Derived.OpenShut
import Derived.LaidMore
import Derived.Stop.Joined
import Derived.SevenTiedAt
namespace Go.Proofs.YtbldklaipdbdjaaDoor.crcCombines
open Go Go.ChangeShapes Go.WideShapes Go.ChangeAt Go.RowKit
open Go.ChangeMaps (open_string shut_string)
set_option linter.unusedVariables false
set_option linter.unusedSimpArgs false

theorem own : ownKnob Tryd.prog.godebug = none := by kernel_rfl
theorem laidOut : laidOutB Tryd.prog = true := by kernel_rfl
theorem door_met (os : Os) (args : Array Value) : laidMetH Tryd.prog [("flightdeck/crc.nibbles", Rows.laid_flightdeck_crc_nibbles)] ((World.doorLaid Tryd.prog 400 os).forCall (fun _ _ => 0) ⟨#[], args, []⟩).memory :=
  laidMetH_of_parts3 (fuel := 8) (laidMet_of_run' 8 (by kernel_rfl) (by kernel_rfl)) (by kernel_rfl) (by kernel_rfl)

set_option maxRecDepth 100000 in
theorem lifted (os : Os) (started : os.Started) (H : Type) (enc : TypeId × Value → H) :
    ReturnsInHanded {} Tryd.checked os 5 .any (fun w args => (Rows.crcCombinesSpec.pre enc Tryd.prog Tryd.f5 [] false w args ∧ laidMetH Tryd.prog [("flightdeck/crc.nibbles", Rows.laid_flightdeck_crc_nibbles)] w) ∧ sizedMet enc Tryd.prog Tryd.f5 (OpenSpec.ofChange Rows.crcCombinesSpec) false w args) (Rows.crcCombinesSpec.post enc Tryd.prog Tryd.f5 false true false false) := by
  refine returnsInHanded_of_change_and (C := Tryd.checked) (X := fun w _ => laidMetH Tryd.prog [("flightdeck/crc.nibbles", Rows.laid_flightdeck_crc_nibbles)] w) (fun _ _ _ hh h => h.of_heap hh) own started (by kernel_rfl) Tryd.func5
    (ChangeSpec.witness_shaped (enc := enc) (C := Tryd.checked) (os := os) (X := fun w _ => laidMetH Tryd.prog [("flightdeck/crc.nibbles", Rows.laid_flightdeck_crc_nibbles)] w) false (World.doorLaid Tryd.prog 400 os) #[.slice none 0 0, .slice none 0 0, .int .i64 0] 12 rfl (World.shaped_of_RefB (by kernel_rfl) (by kernel_rfl)) (by kernel_rfl) (by kernel_rfl) (by kernel_rfl) (door_met os _)) ?_
  intro W base args ds gs before hval0 hW _ _ hL _
  have hval : ∀ (j : Nat) t v, Tryd.f5.params[j]? = some t → args[j]? = some v → Value.okWide Tryd.prog W .any base t v := hval0
  have hW' := hW
  obtain ⟨p, q, hA0, hV, rfl, hfz, hnd⟩ := hW
  have hA : DataW.TrodAll enc Tryd.prog W 0 (fun _ => true) true Tryd.f5.params.toList args.toList ds p := hA0
  rw [Tryd.params5] at hA hval
  obtain ⟨v0, vs0, d0, ds0, p0, q0, hargs, rfl, rfl, h0, r0⟩ := trodAll_cons hA
  obtain ⟨v1, vs1, d1, ds1, p1, q1, rfl, rfl, rfl, h1, r1⟩ := trodAll_cons r0
  obtain ⟨v2, vs2, d2, ds2, p2, q2, rfl, rfl, rfl, h2, r2⟩ := trodAll_cons r1
  obtain ⟨rfl, rfl, rfl⟩ := trodAll_nil r2
  obtain rfl : args = #[v0, v1, v2] := by cases args; simp_all
  obtain ⟨rfl, rfl⟩ := trodVars_none hV
  obtain ⟨p0, n0, c0, rfl⟩ := okWide_slice Tryd.underlying22 (hval 0 22 v0 rfl rfl)
  obtain ⟨b0, o0, hl0, hm0, hp0, hF0⟩ := slice_leaf Tryd.underlying22 (by rw [show Tryd.prog.cellsOf 5 = 1 from by kernel_rfl]; decide) h0
  rw [show Tryd.prog.cellsOf 5 = 1 from by kernel_rfl] at hF0
  obtain ⟨F0_0, g0_0⟩ := hF0 0 5 .u8 (by kernel_rfl) (by kernel_rfl) (by decide)
  clear hF0
  have hn0 := slice_nil Tryd.underlying22 h0
  obtain ⟨p1, n1, c1, rfl⟩ := okWide_slice Tryd.underlying22 (hval 1 22 v1 rfl rfl)
  obtain ⟨b1, o1, hl1, hm1, hp1, hF1⟩ := slice_leaf Tryd.underlying22 (by rw [show Tryd.prog.cellsOf 5 = 1 from by kernel_rfl]; decide) h1
  rw [show Tryd.prog.cellsOf 5 = 1 from by kernel_rfl] at hF1
  obtain ⟨F1_0, g1_0⟩ := hF1 0 5 .u8 (by kernel_rfl) (by kernel_rfl) (by decide)
  clear hF1
  have hn1 := slice_nil Tryd.underlying22 h1
  obtain ⟨a2, rfl, rfl, rfl, w2⟩ := open_int Tryd.underlying3 (hval 2 3 v2 rfl rfl) h2
  have hT := Lib.hid (tab_of hL)
  clear hA0 hval0 hL
  refine (law_combines p0 n0 c0 b0 o0 F0_0 p1 n1 c1 b1 o1 F1_0 a2 hl0 hm0 (fun i hi => bd_u8 (g0_0 i hi).2) hl1 hm1 (fun i hi => bd_u8 (g1_0 i hi).2) (bd_i64 w2).1 (bd_i64 w2).2 W hT hp0 hn0 (fun i hi => (g0_0 i hi).1) hp1 hn1 (fun i hi => (g1_0 i hi).1)).mono fun e W' ⟨he, hg⟩ => ?_
  subst he
  exact ⟨_, rfl, law_post (tb := 4) laidOut (by kernel_rfl) (by kernel_rfl) (by kernel_rfl) rfl hW' ⟨rfl, rfl, rfl⟩ (hg)⟩

theorem over : Rows.crcCombinesRow.holds Tryd.pinned (OpenSpec.ofChange Rows.crcCombinesSpec) :=
  OpenClaim.holds_of_wide 5 Tryd.f5 rfl rfl rfl rfl rfl rfl rfl ⟨rfl, rfl, rfl, rfl, rfl⟩ rfl rfl rfl rfl rfl (by kernel_rfl) Tryd.func5 (by kernel_rfl)
    (of_decide_eq_true (by kernel_rfl)) (by unfold Func.isWrapper; first | (rw [if_pos (by decide +kernel)]; kernel_rfl) | (rw [if_neg (by decide +kernel)]; exact ⟨rfl, rfl⟩))
    (fun os started H enc _ => lifted os started H enc)

theorem proved : Rows.CrcCombinesCardSaid :=
  Claim7.holds_tied_plain_at .later [] [.data] true (true, "f90ed1b57aaf4f64a8fd9699d791ca48dbe1c0ff9d58aedf60516ad04fef57c3") false
    over (fun _ h => by cases h) (by kernel_rfl) (fun _ h => by cases h) crcCombines_row_tie rfl ⟨rfl, rfl⟩ (by kernel_rfl) rfl
    (fun f fn hf hfn => by
      obtain rfl : f = 5 := Option.some.inj ((show Tryd.prog.funcNamed "flightdeck/flightdecklaw06.CrcCombines" = some 5 by kernel_rfl).symm.trans hf) |>.symm
      obtain rfl : fn = Tryd.f5 := (Option.some.inj (Tryd.func5.symm.trans hfn)).symm
      exact ⟨by kernel_rfl, fun j t ht => by
        rw [Tryd.params5] at ht
        have hm : t ∈ [22, 22, 3] := by simpa using Array.mem_of_getElem? ht
        have hall : ([22, 22, 3].all fun u => !Tryd.prog.wantsStandIn u) = true := by kernel_rfl
        exact (show Tryd.prog.wantsStandIn t = false by simpa using List.all_eq_true.1 hall t hm)⟩)
    (by kernel_rfl)
end Go.Proofs.YtbldklaipdbdjaaDoor.crcCombines
