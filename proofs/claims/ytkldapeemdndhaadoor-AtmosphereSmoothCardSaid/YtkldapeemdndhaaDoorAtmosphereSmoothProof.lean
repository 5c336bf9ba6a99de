/-
  From one unit of altitude to the next the pressure falls by at most one millionth, and the ratio of airspeeds rises by at most one.
-/
import Derived.Test.YtkldapeemdndhaaDoorRows
import Derived.Test.YtkldapeemdndhaaDoorCards
import Derived.Test.YtkldapeemdndhaaDoorTie
import Derived.Test.YtkldapeemdndhaaDoorBase
import Derived.Test.YtkldapeemdndhaaDoorAtml
import Derived.WalkKit
import Derived.ProofKit
import Derived.OpenShut
import Derived.LaidMore
import Derived.Stop.Joined
import Derived.SevenTiedAt
namespace Go.Proofs.YtkldapeemdndhaaDoor.atmosphereSmooth
open Go Go.ChangeShapes Go.WideShapes Go.ChangeAt Go.RowKit
open Go.ChangeMaps (open_string shut_string)
set_option linter.unusedVariables false
set_option linter.unusedSimpArgs false

theorem own : ownKnob Tryd.prog.godebug = none := by kernel_rfl
theorem laidOut : laidOutB Tryd.prog = true := by kernel_rfl
theorem door_met (os : Os) (args : Array Value) : laidMetH Tryd.prog [("flightdeck/atmosphere.pressures", Rows.laid_flightdeck_atmosphere_pressures), ("flightdeck/atmosphere.ratios", Rows.laid_flightdeck_atmosphere_ratios), ("flightdeck/atmosphere.temperatures", Rows.laid_flightdeck_atmosphere_temperatures)] ((World.doorLaid Tryd.prog 400 os).forCall (fun _ _ => 0) ⟨#[], args, []⟩).memory :=
  laidMetH_of_parts3 (fuel := 8) (laidMet_of_run' 8 (by kernel_rfl) (by kernel_rfl)) (by kernel_rfl) (by kernel_rfl)

set_option maxRecDepth 100000 in
theorem lifted (os : Os) (started : os.Started) (H : Type) (enc : TypeId × Value → H) :
    ReturnsInHanded {} Tryd.checked os 8 .any (fun w args => (Rows.atmosphereSmoothSpec.pre enc Tryd.prog Tryd.f8 [] false w args ∧ laidMetH Tryd.prog [("flightdeck/atmosphere.pressures", Rows.laid_flightdeck_atmosphere_pressures), ("flightdeck/atmosphere.ratios", Rows.laid_flightdeck_atmosphere_ratios), ("flightdeck/atmosphere.temperatures", Rows.laid_flightdeck_atmosphere_temperatures)] w) ∧ sizedMet enc Tryd.prog Tryd.f8 (OpenSpec.ofChange Rows.atmosphereSmoothSpec) false w args) (Rows.atmosphereSmoothSpec.post enc Tryd.prog Tryd.f8 false true false false) := by
  refine returnsInHanded_of_change_and (C := Tryd.checked) (X := fun w _ => laidMetH Tryd.prog [("flightdeck/atmosphere.pressures", Rows.laid_flightdeck_atmosphere_pressures), ("flightdeck/atmosphere.ratios", Rows.laid_flightdeck_atmosphere_ratios), ("flightdeck/atmosphere.temperatures", Rows.laid_flightdeck_atmosphere_temperatures)] w) (fun _ _ _ hh h => h.of_heap hh) own started (by kernel_rfl) Tryd.func8
    (ChangeSpec.witness_shaped (enc := enc) (C := Tryd.checked) (os := os) (X := fun w _ => laidMetH Tryd.prog [("flightdeck/atmosphere.pressures", Rows.laid_flightdeck_atmosphere_pressures), ("flightdeck/atmosphere.ratios", Rows.laid_flightdeck_atmosphere_ratios), ("flightdeck/atmosphere.temperatures", Rows.laid_flightdeck_atmosphere_temperatures)] w) false (World.doorLaid Tryd.prog 400 os) #[.int .i64 0] 12 rfl (World.shaped_of_RefB (by kernel_rfl) (by kernel_rfl)) (by kernel_rfl) (by kernel_rfl) (by kernel_rfl) (door_met os _)) ?_
  intro W base args ds gs before hval0 hW _ _ hL _
  have hval : ∀ (j : Nat) t v, Tryd.f8.params[j]? = some t → args[j]? = some v → Value.okWide Tryd.prog W .any base t v := hval0
  have hW' := hW
  obtain ⟨p, q, hA0, hV, rfl, hfz, hnd⟩ := hW
  have hA : DataW.TrodAll enc Tryd.prog W 0 (fun _ => true) true Tryd.f8.params.toList args.toList ds p := hA0
  rw [Tryd.params8] at hA hval
  obtain ⟨v0, vs0, d0, ds0, p0, q0, hargs, rfl, rfl, h0, r0⟩ := trodAll_cons hA
  obtain ⟨rfl, rfl, rfl⟩ := trodAll_nil r0
  obtain rfl : args = #[v0] := by cases args; simp_all
  obtain ⟨rfl, rfl⟩ := trodVars_none hV
  obtain ⟨a0, rfl, rfl, rfl, w0⟩ := open_int Tryd.underlying2 (hval 0 2 v0 rfl rfl) h0
  have hT := Lib.hid (tab_of hL)
  clear hA0 hval0 hL
  refine (law_smooth a0 (bd_i64 w0).1 (bd_i64 w0).2 W hT ).mono fun e W' ⟨he, hg⟩ => ?_
  subst he
  exact ⟨_, rfl, law_post (tb := 4) laidOut (by kernel_rfl) (by kernel_rfl) (by kernel_rfl) rfl hW' ⟨rfl, rfl, rfl⟩ (hg)⟩

theorem over : Rows.atmosphereSmoothRow.holds Tryd.pinned (OpenSpec.ofChange Rows.atmosphereSmoothSpec) :=
  OpenClaim.holds_of_wide 8 Tryd.f8 rfl rfl rfl rfl rfl rfl rfl ⟨rfl, rfl, rfl, rfl, rfl⟩ rfl rfl rfl rfl rfl (by kernel_rfl) Tryd.func8 (by kernel_rfl)
    (of_decide_eq_true (by kernel_rfl)) (by unfold Func.isWrapper; first | (rw [if_pos (by decide +kernel)]; kernel_rfl) | (rw [if_neg (by decide +kernel)]; exact ⟨rfl, rfl⟩))
    (fun os started H enc _ => lifted os started H enc)

theorem proved : Rows.AtmosphereSmoothCardSaid :=
  Claim7.holds_tied_plain_at .later [] [.data, .data, .data] true (true, "e3b2b705456168041764e766f1732bcd4005b2c27c36feff611e886677251833") false
    over (fun _ h => by cases h) (by kernel_rfl) (fun _ h => by cases h) atmosphereSmooth_row_tie rfl ⟨rfl, rfl⟩ (by kernel_rfl) rfl
    (fun f fn hf hfn => by
      obtain rfl : f = 8 := Option.some.inj ((show Tryd.prog.funcNamed "flightdeck/flightdecklaw29.AtmosphereSmooth" = some 8 by kernel_rfl).symm.trans hf) |>.symm
      obtain rfl : fn = Tryd.f8 := (Option.some.inj (Tryd.func8.symm.trans hfn)).symm
      exact ⟨by kernel_rfl, fun j t ht => by
        rw [Tryd.params8] at ht
        have hm : t ∈ [2] := by simpa using Array.mem_of_getElem? ht
        have hall : ([2].all fun u => !Tryd.prog.wantsStandIn u) = true := by kernel_rfl
        exact (show Tryd.prog.wantsStandIn t = false by simpa using List.all_eq_true.1 hall t hm)⟩)
    (by kernel_rfl)
end Go.Proofs.YtkldapeemdndhaaDoor.atmosphereSmooth
