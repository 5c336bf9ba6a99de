/-
  Own contracts: package agree: what awake asks.
-/
import Derived.Test.YtjmnipdibjhbhaaAgrb
import Derived.WalkKit
import Derived.ProofKit
import Derived.OpenShut
import Derived.WalkLawsBesides
import Derived.WalkSpells
import Derived.Lib.Hide
import Derived.Deep.DeepCutAuto
import Derived.Deep.CutBlock
import Derived.Deep.QuietTactic
import Derived.BigQuiet
import Derived.Handy
import Derived.StillTailTactics
import Derived.IntWalk
import Derived.LoopN
import Derived.Deep.RegionHeld3
namespace Go.Proofs.Ytjmnipdibjhbhaa
open Go.ChangeShapes Go.WideShapes Go.ChangeAt Go.RowKit
set_option linter.unusedVariables false
set_option linter.unusedSimpArgs false

set_option maxHeartbeats 800000 in
set_option maxRecDepth 100000 in
theorem awake_w (w : World) : Calls Try.prog 5 #[] w fun en w' => en = .returned (.bool true) ∧ Kept w w' := by
  have d1 := fun w => decide_w 2 2 7 0 true 2 7 (by omega) (by omega) (by omega) (by omega) (by omega) (by omega) (by omega) (by omega) (by omega) (by omega) (by omega) (by omega) w
  simp only [show dec 2 2 7 0 true 2 7 = 1 by decide] at d1
  have d2 := fun w => decide_w 1 2 7 0 true 2 7 (by omega) (by omega) (by omega) (by omega) (by omega) (by omega) (by omega) (by omega) (by omega) (by omega) (by omega) (by omega) w
  simp only [show dec 1 2 7 0 true 2 7 = 2 by decide] at d2
  have d3 := fun w => decide_w 1 1 0 3 false 0 0 (by omega) (by omega) (by omega) (by omega) (by omega) (by omega) (by omega) (by omega) (by omega) (by omega) (by omega) (by omega) w
  simp only [show dec 1 1 0 3 false 0 0 = 2 by decide] at d3
  have kc := fun (W : World) (C : Array Value) (n c : Nat) => Lib.run_convert_bytes_const (P := Try.prog) W 27 5 C n c und_bytes (by kernel_rfl)
  go_enter Try.func5, Try.ntmps5
  go_wp2_with fail
  refine (pack_w _ w.heap.size ?ca ?cb).mono ?_
  case ca => rw [World.cell?_alloc_mark]; rfl
  case cb => first | (simp; done) | (simp [go_sem]; done)
  rintro e w1 ⟨p, c, b, rfl, ho, hk⟩
  have hk1 := Lib.hid (((Kept.refl w).alloc _).trans hk)
  have S1 := Lib.hid ho.sl
  clear ho hk kc
  go_wp2_with fail
  refine (unpack_w _ w1.heap.size ?ca ?cb).mono ?_
  case ca => rw [World.cell?_alloc_mark]; rfl
  case cb => first | (simp; done) | (simp [go_sem]; done)
  rintro e w2 ⟨rfl, hk⟩
  have hk2 := Lib.hid (((Kept.refl w1).alloc _).trans hk)
  have cv := conv_w (S1.out.kept hk2.out)
  rw [pk_bs] at cv
  clear hk S1
  go_wp2_with fail
  refine (d1 _).mono ?_
  rintro e w3 ⟨rfl, rfl⟩
  go_wp2_with fail
  refine (d2 _).mono ?_
  rintro e w3 ⟨rfl, rfl⟩
  go_wp2_with fail
  refine (d3 _).mono ?_
  rintro e w3 ⟨rfl, rfl⟩
  go_wp2_with fail
  go_ret
  exact ⟨rfl, hk1.out.trans hk2.out⟩

end Go.Proofs.Ytjmnipdibjhbhaa
