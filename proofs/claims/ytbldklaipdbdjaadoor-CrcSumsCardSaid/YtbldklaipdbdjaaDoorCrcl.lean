/-
  The laws of layer 6: checksums of any bytes, of an exclusive or; walks.
-/
import Derived.Test.YtbldklaipdbdjaaDoorCrcb
import Derived.Test.YtbldklaipdbdjaaDoorCrcn
import Derived.Deep.DeepHandedRow
import Derived.Lib.LaidTab
import Derived.WalkKit
import Derived.ProofKit
import Derived.OpenShut
import Derived.WalkLawsBesides
import Derived.WalkSpells
import Derived.Lib.Hide
import Derived.Deep.DeepCutAuto
import Derived.Deep.CutBlock
import Derived.Deep.QuietTactic
import Derived.BigQuiet
import Derived.Handy
import Derived.StillTailTactics
import Derived.IntWalk
import Derived.LoopN
import Derived.Deep.RegionHeld3
namespace Go.Proofs.YtbldklaipdbdjaaDoor
open Go.ChangeShapes Go.WideShapes Go.ChangeAt Go.RowKit
set_option linter.unusedVariables false
set_option linter.unusedSimpArgs false

theorem cut_w (p : Option Addr) (n c k m : Nat) (hl : n ≤ c) (hc : c ≤ maxLen) (hk : k ≤ 100000) (h : (n ≤ k ∧ m = n) ∨ (k < n ∧ m = k)) (w : World) : Calls Tryd.prog 14 #[.slice p n c, .int .i64 k] w fun en w' => en = .returned (.slice p m c) ∧ w = w' := by
  unfold maxLen at hc
  rcases h with ⟨h, rfl⟩ | ⟨h, rfl⟩
  · go_enter Tryd.func14, Tryd.ntmps14
    go_wp2
    all_goals (go_ret; exact ⟨rfl, rfl⟩)
  · go_enter Tryd.func14, Tryd.ntmps14
    go_wp2
    all_goals (go_ret; exact ⟨rfl, rfl⟩)
theorem cutm (n k : Nat) : ∃ m, m ≤ n ∧ m ≤ k ∧ ((n ≤ k ∧ m = n) ∨ (k < n ∧ m = k)) := by
  by_cases h : n ≤ k
  · exact ⟨n, by omega, by omega, Or.inl ⟨h, rfl⟩⟩
  · exact ⟨k, by omega, by omega, Or.inr ⟨by omega, rfl⟩⟩
theorem nib_tab : ∀ i : Fin 16, ((nib i.1 : Nat) : Int) = ([0x00000000, 0x1DB71064, 0x3B6E20C8, 0x26D930AC, 0x76DC4190, 0x6B6B51F4, 0x4DB26158, 0x5005713C, 0xEDB88320, 0xF00F9344, 0xD6D6A3E8, 0xCB61B38C, 0x9B64C2B0, 0x86D3D2D4, 0xA00AE278, 0xBDBDF21C] : List Int).getD i.1 0 := by decide +kernel
theorem tab_of {W : World} (h : laidMetH Tryd.prog [("flightdeck/crc.nibbles", Rows.laid_flightdeck_crc_nibbles)] W) : Tab W := by
  have t : Lib.TabIs Tryd.prog W "flightdeck/crc.nibbles" .u32 [0x00000000, 0x1DB71064, 0x3B6E20C8, 0x26D930AC, 0x76DC4190, 0x6B6B51F4, 0x4DB26158, 0x5005713C, 0xEDB88320, 0xF00F9344, 0xD6D6A3E8, 0xCB61B38C, 0x9B64C2B0, 0x86D3D2D4, 0xA00AE278, 0xBDBDF21C] :=
    Lib.tabIs_of_head (g := 0) (t := 49) (e := 25) (n := 16) (rest := []) (by kernel_rfl) (by kernel_rfl) (by kernel_rfl) (by kernel_rfl) (by kernel_rfl) (by kernel_rfl) h
  intro i hi
  have e := nib_tab ⟨i, hi⟩
  simp only at e
  rw [e]
  exact t.cell (by kernel_rfl) i hi
theorem by_at {w : World} {b o n : Nat} {F : Nat → Int} (h : By w b o n F) (i : Nat) (hi : i < n) : w.cell? ⟨b, o + i, none⟩ = some (.int .u8 (F i)) := h i hi
theorem by_le {w : World} {b o n m : Nat} {F : Nat → Int} (h : By w b o n F) (hm : m ≤ n) : By w b o m F := fun i hi => h i (by omega)
set_option maxHeartbeats 4000000 in
set_option maxRecDepth 100000 in
theorem law_sums (p0 : Option Addr) (n0 c0 b0 o0 : Nat) (F0 : Nat → Int)  (hl0 : n0 ≤ c0) (hm0 : c0 ≤ maxLen) (fb0 : ∀ i, i < n0 → 0 ≤ F0 i ∧ F0 i ≤ 255)  (w : World) (hT : Hid (Tab w)) (hp0 : 0 < n0 → p0 = some ⟨b0, o0, none⟩ ∧ b0 < w.heap.size) (hc0 : ∀ i, i < n0 → w.cell? ⟨b0, o0 + (i * 1 + 0), none⟩ = some (.int .u8 (F0 i))) : Calls Tryd.prog 3 #[.slice p0 n0 c0] w fun en w' => en = .returned (.bool true) ∧ Kept w w' := by
  obtain ⟨m, hmn, hmk, hmc⟩ := cutm n0 2000
  have kc0 : By w b0 o0 n0 F0 := fun i hi => by simpa using hc0 i hi
  have kp0 : 0 < n0 → b0 < w.heap.size := fun h => (hp0 h).2
  have qp0 : 0 < n0 → p0 = some ⟨b0, o0, none⟩ := fun h => (hp0 h).1
  clear hc0 hp0
  have KC0 := Lib.hid kc0; have KP0 := Lib.hid kp0; have QP0 := Lib.hid qp0; have FB0 := Lib.hid fb0; clear kc0 kp0 qp0 fb0
  go_enter Tryd.func3, Tryd.ntmps3
  go_wp2_with fail
  refine (awake_w _ hT.out).mono ?_
  rintro e w1 ⟨rfl, hk⟩
  have T1 := Lib.hid (tab_kept hk (World.block_lt_of_cell? _ _ (hT.out 0 (by decide))) hT.out)
  have C0 : Hid (By w1 b0 o0 n0 F0) := Lib.hid (fun i hi => (hk.cell (p := ⟨b0, o0 + i, none⟩) (KP0.out (by omega))).trans (KC0.out i hi))
  clear KC0
  unfold maxLen at hm0
  go_wp2_with fail
  refine (cut_w p0 n0 c0 2000 m hl0 hm0 (by omega) hmc _).mono ?_
  rintro e w' ⟨rfl, rfl⟩
  clear hmc

  go_wp2_with (first | (go_at_call 15; (with_reducible refine (sum_w p0 m c0 b0 o0 F0 (by unfold maxLen; omega) (fun i hi => FB0.out i (by omega)) _ (fun h => QP0.out (by omega)) (fun i hi => by_at C0.out i (by omega)) T1.out).mono ?_); rintro e w' ⟨rfl, rfl⟩) | (go_at_call 16; (with_reducible refine (ref_sum_w p0 m c0 b0 o0 F0 (by unfold maxLen; omega) (fun i hi => FB0.out i (by omega)) _ (fun h => QP0.out (by omega)) (fun i hi => by_at C0.out i (by omega)) ).mono ?_); rintro e w' ⟨rfl, rfl⟩))
  go_ret
  exact ⟨rfl, hk⟩
end Go.Proofs.YtbldklaipdbdjaaDoor
