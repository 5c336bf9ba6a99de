/-
  Own contracts: the document's texts of directions; a course's text read back.
-/
import Derived.Test.YtofeijgcbjhkdaaAngw
import Derived.WalkKit
import Derived.ProofKit
import Derived.OpenShut
import Derived.WalkLawsBesides
import Derived.WalkSpells
import Derived.Lib.Hide
import Derived.Deep.DeepCutAuto
import Derived.Deep.CutBlock
import Derived.Deep.QuietTactic
import Derived.BigQuiet
import Derived.Handy
import Derived.StillTailTactics
import Derived.IntWalk
import Derived.LoopN
import Derived.Deep.RegionHeld3
namespace Go.Proofs.Ytofeijgcbjhkdaa
open Go.ChangeShapes Go.WideShapes Go.ChangeAt Go.RowKit
set_option linter.unusedVariables false
set_option linter.unusedSimpArgs false
set_option maxHeartbeats 1000000 in
theorem rdig2 (n : Int) (h0 : 0 ≤ n) (h1 : n ≤ 9223372036854775807) (w : World) : Calls Try.prog 54 #[.int .i64 n, .int .i64 2] w fun e w' => e = .returned (.string (d2 n)) ∧ Kept w w' := by
  have cv : ∀ (W : World) (b : Nat) (x : Int), W.cell? ⟨b, 0, none⟩ = some (.int .u8 x) → (convert 52 9 (.slice (some ⟨b, 0, none⟩) 1 1)).run Try.prog W = .ok (.string ⟨#[UInt8.ofNat x.toNat]⟩) W := by
    intro W b x c0
    have := run_convert_bytes_arg (P := Try.prog) W 52 5 Try.underlying52 Try.underlying5 b 0 1 1 [x] rfl (fun i hi => by
      match i, hi with
      | 0, _ => simpa using c0) 9 Try.underlying9
    simpa [strOfNums] using this
  go_enter Try.func54, Try.ntmps54
  go_wp2_with fail
  refine wp_loop_rounds 3 ?_
  repeat (rw [rounds_succ]; go_wp2)
  go_ret
  exact ⟨rfl, (by repeat (first | with_reducible exact Kept.refl _ | with_reducible assumption | with_reducible refine Kept.setCell ?_ (by first | (simp; done) | (simp; omega) | omega) _ | with_reducible refine Kept.alloc ?_ _ | with_reducible refine Kept.drewN ?_ _ | with_reducible refine Kept.drew ?_ | with_reducible refine Kept.trans ?_ (by with_reducible assumption) | with_reducible refine Kept.dr ?_ (by with_reducible assumption)))⟩
set_option maxHeartbeats 1000000 in
theorem rdig3 (n : Int) (h0 : 0 ≤ n) (h1 : n ≤ 9223372036854775807) (w : World) : Calls Try.prog 54 #[.int .i64 n, .int .i64 3] w fun e w' => e = .returned (.string (d3 n)) ∧ Kept w w' := by
  have cv : ∀ (W : World) (b : Nat) (x : Int), W.cell? ⟨b, 0, none⟩ = some (.int .u8 x) → (convert 52 9 (.slice (some ⟨b, 0, none⟩) 1 1)).run Try.prog W = .ok (.string ⟨#[UInt8.ofNat x.toNat]⟩) W := by
    intro W b x c0
    have := run_convert_bytes_arg (P := Try.prog) W 52 5 Try.underlying52 Try.underlying5 b 0 1 1 [x] rfl (fun i hi => by
      match i, hi with
      | 0, _ => simpa using c0) 9 Try.underlying9
    simpa [strOfNums] using this
  go_enter Try.func54, Try.ntmps54
  go_wp2_with fail
  refine wp_loop_rounds 4 ?_
  repeat (rw [rounds_succ]; go_wp2)
  go_ret
  exact ⟨rfl, (by repeat (first | with_reducible exact Kept.refl _ | with_reducible assumption | with_reducible refine Kept.setCell ?_ (by first | (simp; done) | (simp; omega) | omega) _ | with_reducible refine Kept.alloc ?_ _ | with_reducible refine Kept.drewN ?_ _ | with_reducible refine Kept.drew ?_ | with_reducible refine Kept.trans ?_ (by with_reducible assumption) | with_reducible refine Kept.dr ?_ (by with_reducible assumption)))⟩
set_option maxHeartbeats 1000000 in
theorem rdig4 (n : Int) (h0 : 0 ≤ n) (h1 : n ≤ 9223372036854775807) (w : World) : Calls Try.prog 54 #[.int .i64 n, .int .i64 4] w fun e w' => e = .returned (.string (d4 n)) ∧ Kept w w' := by
  have cv : ∀ (W : World) (b : Nat) (x : Int), W.cell? ⟨b, 0, none⟩ = some (.int .u8 x) → (convert 52 9 (.slice (some ⟨b, 0, none⟩) 1 1)).run Try.prog W = .ok (.string ⟨#[UInt8.ofNat x.toNat]⟩) W := by
    intro W b x c0
    have := run_convert_bytes_arg (P := Try.prog) W 52 5 Try.underlying52 Try.underlying5 b 0 1 1 [x] rfl (fun i hi => by
      match i, hi with
      | 0, _ => simpa using c0) 9 Try.underlying9
    simpa [strOfNums] using this
  go_enter Try.func54, Try.ntmps54
  go_wp2_with fail
  refine wp_loop_rounds 5 ?_
  repeat (rw [rounds_succ]; go_wp2)
  go_ret
  exact ⟨rfl, (by repeat (first | with_reducible exact Kept.refl _ | with_reducible assumption | with_reducible refine Kept.setCell ?_ (by first | (simp; done) | (simp; omega) | omega) _ | with_reducible refine Kept.alloc ?_ _ | with_reducible refine Kept.drewN ?_ _ | with_reducible refine Kept.drew ?_ | with_reducible refine Kept.trans ?_ (by with_reducible assumption) | with_reducible refine Kept.dr ?_ (by with_reducible assumption)))⟩
set_option maxHeartbeats 1000000 in
theorem rsex2 (a : Int) (h0 : 0 ≤ a) (h1 : a ≤ 9223372036854775807) (w : World) : Calls Try.prog 47 #[.int .i64 a, .int .i64 2] w fun e w' => e = .returned (.string (sx2 a)) ∧ Kept w w' := by
  have z2 : ∀ n, (d2 n).size = 2 := fun _ => rfl
  have z3 : ∀ n, (d3 n).size = 3 := fun _ => rfl
  go_enter Try.func47, Try.ntmps47
  go_wp2_with (first | (go_at_call 54; (first | with_reducible refine (rdig2 _ (by omega) (by omega) _).mono ?_ | with_reducible refine (rdig3 _ (by omega) (by omega) _).mono ?_ | with_reducible refine (rdig4 _ (by omega) (by omega) _).mono ?_); rintro e w' ⟨rfl, hk⟩))
  go_ret
  exact ⟨rfl, (by repeat (first | with_reducible exact Kept.refl _ | with_reducible assumption | with_reducible refine Kept.setCell ?_ (by first | (simp; done) | (simp; omega) | omega) _ | with_reducible refine Kept.alloc ?_ _ | with_reducible refine Kept.drewN ?_ _ | with_reducible refine Kept.drew ?_ | with_reducible refine Kept.trans ?_ (by with_reducible assumption) | with_reducible refine Kept.dr ?_ (by with_reducible assumption)))⟩
set_option maxHeartbeats 1000000 in
theorem rsex3 (a : Int) (h0 : 0 ≤ a) (h1 : a ≤ 9223372036854775807) (w : World) : Calls Try.prog 47 #[.int .i64 a, .int .i64 3] w fun e w' => e = .returned (.string (sx3 a)) ∧ Kept w w' := by
  have z2 : ∀ n, (d2 n).size = 2 := fun _ => rfl
  have z3 : ∀ n, (d3 n).size = 3 := fun _ => rfl
  go_enter Try.func47, Try.ntmps47
  go_wp2_with (first | (go_at_call 54; (first | with_reducible refine (rdig2 _ (by omega) (by omega) _).mono ?_ | with_reducible refine (rdig3 _ (by omega) (by omega) _).mono ?_ | with_reducible refine (rdig4 _ (by omega) (by omega) _).mono ?_); rintro e w' ⟨rfl, hk⟩))
  go_ret
  exact ⟨rfl, (by repeat (first | with_reducible exact Kept.refl _ | with_reducible assumption | with_reducible refine Kept.setCell ?_ (by first | (simp; done) | (simp; omega) | omega) _ | with_reducible refine Kept.alloc ?_ _ | with_reducible refine Kept.drewN ?_ _ | with_reducible refine Kept.drew ?_ | with_reducible refine Kept.trans ?_ (by with_reducible assumption) | with_reducible refine Kept.dr ?_ (by with_reducible assumption)))⟩
theorem rcourse_w (a : Int) (a_0 : -9223372036854775808 ≤ a) (a_1 : a ≤ 9223372036854775807) (w : World) : Calls Try.prog 42 #[.int .i64 a] w fun e w' => e = .returned (.string (d4 ((nrm a + 18000) / 36000 % 3600))) ∧ Kept w w' := by
  obtain ⟨b0, b1⟩ := nrm_bd a
  go_enter Try.func42, Try.ntmps42
  go_wp2_with (first | (go_at_call 14; (first | refine (ref_norm_w _ (by omega) (by omega) _).mono ?_); rintro e w' ⟨rfl, rfl⟩) | (go_at_call 54; (first | with_reducible refine (rdig2 _ (by omega) (by omega) _).mono ?_ | with_reducible refine (rdig3 _ (by omega) (by omega) _).mono ?_ | with_reducible refine (rdig4 _ (by omega) (by omega) _).mono ?_); rintro e w' ⟨rfl, hk⟩))
  go_ret
  exact ⟨rfl, (by repeat (first | with_reducible exact Kept.refl _ | with_reducible assumption | with_reducible refine Kept.setCell ?_ (by first | (simp; done) | (simp; omega) | omega) _ | with_reducible refine Kept.alloc ?_ _ | with_reducible refine Kept.drewN ?_ _ | with_reducible refine Kept.drew ?_ | with_reducible refine Kept.trans ?_ (by with_reducible assumption) | with_reducible refine Kept.dr ?_ (by with_reducible assumption)))⟩
theorem rexact_w (a : Int) (a_0 : -9223372036854775808 ≤ a) (a_1 : a ≤ 9223372036854775807) (w : World) : Calls Try.prog 43 #[.int .i64 a] w fun e w' => e = .returned (.string (sx3 (nrm a))) ∧ Kept w w' := by
  obtain ⟨b0, b1⟩ := nrm_bd a
  go_enter Try.func43, Try.ntmps43
  go_wp2_with (first | (go_at_call 14; (first | refine (ref_norm_w _ (by omega) (by omega) _).mono ?_); rintro e w' ⟨rfl, rfl⟩) | (go_at_call 47; (first | with_reducible refine (rsex2 _ (by omega) (by omega) _).mono ?_ | with_reducible refine (rsex3 _ (by omega) (by omega) _).mono ?_); rintro e w' ⟨rfl, hk⟩))
  go_ret
  exact ⟨rfl, (by repeat (first | with_reducible exact Kept.refl _ | with_reducible assumption | with_reducible refine Kept.setCell ?_ (by first | (simp; done) | (simp; omega) | omega) _ | with_reducible refine Kept.alloc ?_ _ | with_reducible refine Kept.drewN ?_ _ | with_reducible refine Kept.drew ?_ | with_reducible refine Kept.trans ?_ (by with_reducible assumption) | with_reducible refine Kept.dr ?_ (by with_reducible assumption)))⟩
theorem dgt_val (n : Int) (h : 0 ≤ n) : ((dgt n).toNat : Int) = 48 + n % 10 := by
  unfold dgt
  rw [UInt8.toNat_ofNat']
  omega
theorem num4 (n : Int) (h0 : 0 ≤ n) (h1 : n ≤ 9999) : numL (d4 n).data.toList = n := by
  show 10 * (10 * (10 * (10 * 0 + (((dgt (n / 10 / 10 / 10)).toNat : Int) - 48)) + (((dgt (n / 10 / 10)).toNat : Int) - 48)) + (((dgt (n / 10)).toNat : Int) - 48)) + (((dgt n).toNat : Int) - 48) = n
  rw [dgt_val _ (by omega), dgt_val _ (by omega), dgt_val _ (by omega), dgt_val _ (by omega)]
  omega
theorem num3 (n : Int) (h0 : 0 ≤ n) (h1 : n ≤ 999) : numL [dgt (n / 10 / 10), dgt (n / 10), dgt n] = n := by
  show 10 * (10 * (10 * 0 + (((dgt (n / 10 / 10)).toNat : Int) - 48)) + (((dgt (n / 10)).toNat : Int) - 48)) + (((dgt n).toNat : Int) - 48) = n
  rw [dgt_val _ (by omega), dgt_val _ (by omega), dgt_val _ (by omega)]
  omega
theorem num2 (n : Int) (h0 : 0 ≤ n) (h1 : n ≤ 99) : numL [dgt (n / 10), dgt n] = n := by
  show 10 * (10 * 0 + (((dgt (n / 10)).toNat : Int) - 48)) + (((dgt n).toNat : Int) - 48) = n
  rw [dgt_val _ (by omega), dgt_val _ (by omega)]
  omega
theorem dgt_ok (n : Int) (h : 0 ≤ n) : 48 ≤ ((dgt n).toNat : Int) ∧ ((dgt n).toNat : Int) ≤ 57 := by rw [dgt_val n h]; omega
theorem Dig.list {l : List UInt8} (h : ∀ c ∈ l, 48 ≤ (c.toNat : Int) ∧ (c.toNat : Int) ≤ 57) : Dig ⟨l.toArray⟩ := by
  intro k hk
  have hk' : k < l.length := by simpa [ByteArray.size] using hk
  have : (⟨l.toArray⟩ : ByteArray)[k] = l[k] := by simp [ByteArray.getElem_eq_getElem_data]
  rw [this]
  exact h _ (List.getElem_mem hk')
end Go.Proofs.Ytofeijgcbjhkdaa
