/-
  The laws of layer 6: checksums of any bytes, of an exclusive or; walks.
-/
import Derived.Test.YtbldklaipdbdjaaDoorCrcb
import Derived.Test.YtbldklaipdbdjaaDoorCrcn
import Derived.Deep.DeepHandedRow
import Derived.Lib.LaidTab
import Derived.WalkKit
import Derived.ProofKit
import Derived.OpenShut
import Derived.WalkLawsBesides
import Derived.WalkSpells
import Derived.Lib.Hide
import Derived.Deep.DeepCutAuto
import Derived.Deep.CutBlock
import Derived.Deep.QuietTactic
import Derived.BigQuiet
import Derived.Handy
import Derived.StillTailTactics
import Derived.IntWalk
import Derived.LoopN
import Derived.Deep.RegionHeld3
namespace Go.Proofs.YtbldklaipdbdjaaDoor
open Go.ChangeShapes Go.WideShapes Go.ChangeAt Go.RowKit
set_option linter.unusedVariables false
set_option linter.unusedSimpArgs false

theorem cut_w (p : Option Addr) (n c k m : Nat) (hl : n ≤ c) (hc : c ≤ maxLen) (hk : k ≤ 100000) (h : (n ≤ k ∧ m = n) ∨ (k < n ∧ m = k)) (w : World) : Calls Tryd.prog 14 #[.slice p n c, .int .i64 k] w fun en w' => en = .returned (.slice p m c) ∧ w = w' := by
  unfold maxLen at hc
  rcases h with ⟨h, rfl⟩ | ⟨h, rfl⟩
  · go_enter Tryd.func14, Tryd.ntmps14
    go_wp2
    all_goals (go_ret; exact ⟨rfl, rfl⟩)
  · go_enter Tryd.func14, Tryd.ntmps14
    go_wp2
    all_goals (go_ret; exact ⟨rfl, rfl⟩)
theorem cutm (n k : Nat) : ∃ m, m ≤ n ∧ m ≤ k ∧ ((n ≤ k ∧ m = n) ∨ (k < n ∧ m = k)) := by
  by_cases h : n ≤ k
  · exact ⟨n, by omega, by omega, Or.inl ⟨h, rfl⟩⟩
  · exact ⟨k, by omega, by omega, Or.inr ⟨by omega, rfl⟩⟩
theorem nib_tab : ∀ i : Fin 16, ((nib i.1 : Nat) : Int) = ([0x00000000, 0x1DB71064, 0x3B6E20C8, 0x26D930AC, 0x76DC4190, 0x6B6B51F4, 0x4DB26158, 0x5005713C, 0xEDB88320, 0xF00F9344, 0xD6D6A3E8, 0xCB61B38C, 0x9B64C2B0, 0x86D3D2D4, 0xA00AE278, 0xBDBDF21C] : List Int).getD i.1 0 := by decide +kernel
theorem tab_of {W : World} (h : laidMetH Tryd.prog [("flightdeck/crc.nibbles", Rows.laid_flightdeck_crc_nibbles)] W) : Tab W := by
  have t : Lib.TabIs Tryd.prog W "flightdeck/crc.nibbles" .u32 [0x00000000, 0x1DB71064, 0x3B6E20C8, 0x26D930AC, 0x76DC4190, 0x6B6B51F4, 0x4DB26158, 0x5005713C, 0xEDB88320, 0xF00F9344, 0xD6D6A3E8, 0xCB61B38C, 0x9B64C2B0, 0x86D3D2D4, 0xA00AE278, 0xBDBDF21C] :=
    Lib.tabIs_of_head (g := 0) (t := 49) (e := 25) (n := 16) (rest := []) (by kernel_rfl) (by kernel_rfl) (by kernel_rfl) (by kernel_rfl) (by kernel_rfl) (by kernel_rfl) h
  intro i hi
  have e := nib_tab ⟨i, hi⟩
  simp only at e
  rw [e]
  exact t.cell (by kernel_rfl) i hi
theorem by_at {w : World} {b o n : Nat} {F : Nat → Int} (h : By w b o n F) (i : Nat) (hi : i < n) : w.cell? ⟨b, o + i, none⟩ = some (.int .u8 (F i)) := h i hi
theorem by_le {w : World} {b o n m : Nat} {F : Nat → Int} (h : By w b o n F) (hm : m ≤ n) : By w b o m F := fun i hi => h i (by omega)
set_option maxHeartbeats 4000000 in
set_option maxRecDepth 100000 in
theorem law_sums (p0 : Option Addr) (n0 c0 b0 o0 : Nat) (F0 : Nat → Int)  (hl0 : n0 ≤ c0) (hm0 : c0 ≤ maxLen) (fb0 : ∀ i, i < n0 → 0 ≤ F0 i ∧ F0 i ≤ 255)  (w : World) (hT : Hid (Tab w)) (hp0 : 0 < n0 → p0 = some ⟨b0, o0, none⟩ ∧ b0 < w.heap.size) (hc0 : ∀ i, i < n0 → w.cell? ⟨b0, o0 + (i * 1 + 0), none⟩ = some (.int .u8 (F0 i))) : Calls Tryd.prog 3 #[.slice p0 n0 c0] w fun en w' => en = .returned (.bool true) ∧ Kept w w' := by
  obtain ⟨m, hmn, hmk, hmc⟩ := cutm n0 2000
  have kc0 : By w b0 o0 n0 F0 := fun i hi => by simpa using hc0 i hi
  have kp0 : 0 < n0 → b0 < w.heap.size := fun h => (hp0 h).2
  have qp0 : 0 < n0 → p0 = some ⟨b0, o0, none⟩ := fun h => (hp0 h).1
  clear hc0 hp0
  have KC0 := Lib.hid kc0; have KP0 := Lib.hid kp0; have QP0 := Lib.hid qp0; have FB0 := Lib.hid fb0; clear kc0 kp0 qp0 fb0
  go_enter Tryd.func3, Tryd.ntmps3
  go_wp2_with fail
  refine (awake_w _ hT.out).mono ?_
  rintro e w1 ⟨rfl, hk⟩
  have T1 := Lib.hid (tab_kept hk (World.block_lt_of_cell? _ _ (hT.out 0 (by decide))) hT.out)
  have C0 : Hid (By w1 b0 o0 n0 F0) := Lib.hid (fun i hi => (hk.cell (p := ⟨b0, o0 + i, none⟩) (KP0.out (by omega))).trans (KC0.out i hi))
  clear KC0
  unfold maxLen at hm0
  go_wp2_with fail
  refine (cut_w p0 n0 c0 2000 m hl0 hm0 (by omega) hmc _).mono ?_
  rintro e w' ⟨rfl, rfl⟩
  clear hmc

  go_wp2_with (first | (go_at_call 15; (with_reducible refine (sum_w p0 m c0 b0 o0 F0 (by unfold maxLen; omega) (fun i hi => FB0.out i (by omega)) _ (fun h => QP0.out (by omega)) (fun i hi => by_at C0.out i (by omega)) T1.out).mono ?_); rintro e w' ⟨rfl, rfl⟩) | (go_at_call 16; (with_reducible refine (ref_sum_w p0 m c0 b0 o0 F0 (by unfold maxLen; omega) (fun i hi => FB0.out i (by omega)) _ (fun h => QP0.out (by omega)) (fun i hi => by_at C0.out i (by omega)) ).mono ?_); rintro e w' ⟨rfl, rfl⟩))
  go_ret
  exact ⟨rfl, hk⟩
/-- a row of n own bytes at block g, the first k of which are X's -/
def LinR (w1 wr : World) (g n k : Nat) (X : Nat → Int) : Prop := Kept w1 wr ∧ w1.heap.size ≤ g ∧ g < wr.heap.size ∧ By wr g 0 n (fun j => if j < k then X j else 0) ∧ (∀ j, wr.frozen? ⟨g, j, none⟩ = false)
theorem linr_start (w1 : World) (n : Nat) (X : Nat → Int) : LinR w1 (w1.alloc (.cells (madeCells #[.int .u8 0] n) 5)) w1.heap.size n 0 X := by
  refine ⟨(Kept.refl _).alloc _, Nat.le_refl _, by simp, fun i hi => ?_, fun j => by simp⟩
  rw [made1, Nat.zero_add, World.cell?_alloc_mark]
  simp [hi]
theorem linr_step {w1 wr : World} {g n k : Nat} {X : Nat → Int} (h : LinR w1 wr g n k X) (hk : k < n) : LinR w1 (wr.setCell ⟨g, k, none⟩ (.int .u8 (X k))) g n (k + 1) X := by
  obtain ⟨h1, h2, h3, h4, h5⟩ := h
  refine ⟨h1.setCell h2 _, h2, by simpa [World.setCell] using h3, fun i hi => ?_, fun j => by rw [World.frozen?_setCell]; exact h5 j⟩
  have h6 := h4 i hi
  rw [Nat.zero_add] at h6 ⊢
  dsimp only at h6 ⊢
  by_cases e : i = k
  · subst e
    rw [if_pos (by omega)]
    exact World.cell?_setCell_same _ _ _ h6
  · have hne : (⟨g, k, none⟩ : Addr) ≠ ⟨g, i, none⟩ := by intro h; injection h with _ h _; omega
    rw [World.cell?_setCell_other _ _ _ _ hne, h6]
    by_cases e2 : i < k
    · rw [if_pos e2, if_pos (by omega)]
    · rw [if_neg e2, if_neg (by omega)]
theorem linr_drew {w1 wr : World} {g n k : Nat} {X : Nat → Int} (h : LinR w1 wr g n k X) : LinR w1 wr.drew g n k X := by
  obtain ⟨h1, h2, h3, h4, h5⟩ := h
  exact ⟨h1.drew, h2, h3, h4, h5⟩
theorem linr_end {w1 wr : World} {g n : Nat} {X : Nat → Int} (h : LinR w1 wr g n n X) : By wr g 0 n X := fun i hi => by
  have := h.2.2.2.1 i hi
  dsimp only at this
  rwa [if_pos hi] at this
theorem run_min4 {P : Program} {w : World} (ts : Array TypeId) (t : TypeId) (x y z u : Int) : (Builtin.min_ ts t #[.int .i64 x, .int .i64 y, .int .i64 z, .int .i64 u]).run P w = .ok (.int .i64 (min (min (min x y) z) u)) w := by
  have h : ∀ a b : Int, (if b < a then b else a) = min a b := fun a b => by split <;> omega
  simp [Builtin.min_, Builtin.min2, h]
set_option maxHeartbeats 4000000 in
set_option maxRecDepth 100000 in
theorem law_linear (p0 : Option Addr) (n0 c0 b0 o0 : Nat) (F0 : Nat → Int) (p1 : Option Addr) (n1 c1 b1 o1 : Nat) (F1 : Nat → Int) (p2 : Option Addr) (n2 c2 b2 o2 : Nat) (F2 : Nat → Int)  (hl0 : n0 ≤ c0) (hm0 : c0 ≤ maxLen) (fb0 : ∀ i, i < n0 → 0 ≤ F0 i ∧ F0 i ≤ 255) (hl1 : n1 ≤ c1) (hm1 : c1 ≤ maxLen) (fb1 : ∀ i, i < n1 → 0 ≤ F1 i ∧ F1 i ≤ 255) (hl2 : n2 ≤ c2) (hm2 : c2 ≤ maxLen) (fb2 : ∀ i, i < n2 → 0 ≤ F2 i ∧ F2 i ≤ 255)  (w : World) (hT : Hid (Tab w)) (hp0 : 0 < n0 → p0 = some ⟨b0, o0, none⟩ ∧ b0 < w.heap.size) (hc0 : ∀ i, i < n0 → w.cell? ⟨b0, o0 + (i * 1 + 0), none⟩ = some (.int .u8 (F0 i))) (hp1 : 0 < n1 → p1 = some ⟨b1, o1, none⟩ ∧ b1 < w.heap.size) (hc1 : ∀ i, i < n1 → w.cell? ⟨b1, o1 + (i * 1 + 0), none⟩ = some (.int .u8 (F1 i))) (hp2 : 0 < n2 → p2 = some ⟨b2, o2, none⟩ ∧ b2 < w.heap.size) (hc2 : ∀ i, i < n2 → w.cell? ⟨b2, o2 + (i * 1 + 0), none⟩ = some (.int .u8 (F2 i))) : Calls Tryd.prog 6 #[.slice p0 n0 c0, .slice p1 n1 c1, .slice p2 n2 c2] w fun en w' => en = .returned (.bool true) ∧ Kept w w' := by
  obtain ⟨m, hm⟩ : ∃ m : Nat, m = min (min (min n0 n1) n2) 500 := ⟨_, rfl⟩
  have m0 : m ≤ n0 := by omega
  have m1 : m ≤ n1 := by omega
  have m2 : m ≤ n2 := by omega
  have m3 : m ≤ 500 := by omega
  have kc0 : By w b0 o0 n0 F0 := fun i hi => by simpa using hc0 i hi
  have kp0 : 0 < n0 → b0 < w.heap.size := fun h => (hp0 h).2
  have qp0 : 0 < n0 → p0 = some ⟨b0, o0, none⟩ := fun h => (hp0 h).1
  clear hc0 hp0
  have kc1 : By w b1 o1 n1 F1 := fun i hi => by simpa using hc1 i hi
  have kp1 : 0 < n1 → b1 < w.heap.size := fun h => (hp1 h).2
  have qp1 : 0 < n1 → p1 = some ⟨b1, o1, none⟩ := fun h => (hp1 h).1
  clear hc1 hp1
  have kc2 : By w b2 o2 n2 F2 := fun i hi => by simpa using hc2 i hi
  have kp2 : 0 < n2 → b2 < w.heap.size := fun h => (hp2 h).2
  have qp2 : 0 < n2 → p2 = some ⟨b2, o2, none⟩ := fun h => (hp2 h).1
  clear hc2 hp2
  have KC0 := Lib.hid kc0; have KP0 := Lib.hid kp0; have QP0 := Lib.hid qp0; have FB0 := Lib.hid fb0; clear kc0 kp0 qp0 fb0
  have KC1 := Lib.hid kc1; have KP1 := Lib.hid kp1; have QP1 := Lib.hid qp1; have FB1 := Lib.hid fb1; clear kc1 kp1 qp1 fb1
  have KC2 := Lib.hid kc2; have KP2 := Lib.hid kp2; have QP2 := Lib.hid qp2; have FB2 := Lib.hid fb2; clear kc2 kp2 qp2 fb2
  go_enter Tryd.func6, Tryd.ntmps6
  go_wp2_with fail
  refine (awake_w _ hT.out).mono ?_
  rintro e w1 ⟨rfl, hk⟩
  have T1 := Lib.hid (tab_kept hk (World.block_lt_of_cell? _ _ (hT.out 0 (by decide))) hT.out)
  have C0 : Hid (By w1 b0 o0 n0 F0) := Lib.hid (fun i hi => (hk.cell (p := ⟨b0, o0 + i, none⟩) (KP0.out (by omega))).trans (KC0.out i hi))
  clear KC0
  have C1 : Hid (By w1 b1 o1 n1 F1) := Lib.hid (fun i hi => (hk.cell (p := ⟨b1, o1 + i, none⟩) (KP1.out (by omega))).trans (KC1.out i hi))
  clear KC1
  have C2 : Hid (By w1 b2 o2 n2 F2) := Lib.hid (fun i hi => (hk.cell (p := ⟨b2, o2 + i, none⟩) (KP2.out (by omega))).trans (KC2.out i hi))
  clear KC2
  unfold maxLen at hm0 hm1 hm2
  have mnl : ∀ (ts : Array TypeId) (ty : TypeId) (w : World), (Builtin.min_ ts ty #[.int .i64 n0, .int .i64 n1, .int .i64 n2, .int .i64 500]).run Tryd.prog w = .ok (.int .i64 m) w := fun ts ty w => by
    have := run_min4 (P := Tryd.prog) (w := w) ts ty n0 n1 n2 500
    rw [this]; congr 2; omega
  clear hm
  have mk : ∀ W : World, (Instr.makeSlice 22 (.int .i64 m) (.int .i64 m)).run Tryd.prog W = .ok (.slice (some ⟨W.heap.size, 0, none⟩) m m) (W.alloc (.cells (madeCells #[.int .u8 0] m) 5)) := fun W => mk_bytes m (by omega) W
  obtain ⟨X, hX⟩ : ∃ X : Nat → Int, ∀ i, X i = (((F0 i).toNat ^^^ (F1 i).toNat ^^^ (F2 i).toNat : Nat) : Int) := ⟨_, fun _ => rfl⟩
  have HX := Lib.hid hX
  clear hX
  go_wp2_with fail
  have L0 := linr_start w1 m X
  generalize w1.alloc (.cells (madeCells #[.int .u8 0] m) 5) = wa at L0 ⊢
  have LH := Lib.hid L0
  obtain ⟨g, hg⟩ : ∃ g, g = w1.heap.size := ⟨_, rfl⟩
  rw [← hg] at LH ⊢
  clear L0 hg
  go_loopw [23] (fun i wr => ∃ k : Nat, k ≤ m ∧ i = .int .i64 k ∧ Hid (LinR w1 wr g m k X)) (fun i _ => m - (intOf i).toNat)
  case atStart => exact ⟨0, Nat.zero_le _, rfl, LH⟩
  case round =>
    obtain ⟨k, hkm, rfl, hR⟩ := hrel
    have hR' := hR.out
    obtain ⟨r1, r2, r3, r4, r5⟩ := hR'
    by_cases hlt : k < m
    · obtain ⟨f0, f1⟩ := FB0.out k (by omega)
      obtain ⟨f2, f3⟩ := FB1.out k (by omega)
      obtain ⟨f4, f5⟩ := FB2.out k (by omega)
      have d0 : wr.cell? ⟨b0, o0 + k, none⟩ = some (.int .u8 (F0 k)) := (r1.cell (p := ⟨b0, o0 + k, none⟩) (World.block_lt_of_cell? _ _ (by_at C0.out k (by omega)))).trans (by_at C0.out k (by omega))
      have d1 : wr.cell? ⟨b1, o1 + k, none⟩ = some (.int .u8 (F1 k)) := (r1.cell (p := ⟨b1, o1 + k, none⟩) (World.block_lt_of_cell? _ _ (by_at C1.out k (by omega)))).trans (by_at C1.out k (by omega))
      have d2 : wr.cell? ⟨b2, o2 + k, none⟩ = some (.int .u8 (F2 k)) := (r1.cell (p := ⟨b2, o2 + k, none⟩) (World.block_lt_of_cell? _ _ (by_at C2.out k (by omega)))).trans (by_at C2.out k (by omega))
      have d3 := by_at r4 k hlt
      rw [Nat.zero_add, if_neg (by omega)] at d3
      obtain rfl := QP0.out (by omega)
      obtain rfl := QP1.out (by omega)
      obtain rfl := QP2.out (by omega)
      have hX := HX.out k
      generalize F0 k = v0 at d0 f0 f1 hX
      generalize F1 k = v1 at d1 f2 f3 hX
      generalize F2 k = v2 at d2 f4 f5 hX
      have hx1 := u8_xor v0 v1 f0 (by omega) f2 (by omega)
      obtain ⟨v3, hv3⟩ : ∃ v3 : Nat, v0.toNat ^^^ v1.toNat = v3 := ⟨_, rfl⟩
      have hv3l : v3 < 256 := by rw [← hv3]; exact Nat.xor_lt_two_pow (n := 8) (by omega) (by omega)
      rw [hv3] at hx1 hX
      have hx2 := u8_xor v3 v2 (by omega) (by omega) f4 (by omega)
      rw [show (v3 : Int).toNat = v3 from rfl, ← hX] at hx2
      obtain ⟨xk, hxk⟩ : ∃ xk, X k = xk := ⟨_, rfl⟩
      have hst := linr_step hR.out hlt
      rw [hxk] at hx2 hst
      have HST := Lib.hid hst
      clear hv3 hX hxk hst hR r4
      go_wp2_with fail
      go_region
      go_wp2
      go_roundw
      case rel => exact ⟨k + 1, by omega, by go_num, Lib.hid (linr_drew HST.out)⟩
      case measure => simp [intOf]; omega
    · obtain rfl : k = m := by omega
      have hB := linr_end hR.out
      have TR := tab_kept r1 (World.block_lt_of_cell? _ _ (T1.out 0 (by decide))) T1.out
      have e3 := cks_xor3 X F0 F1 F2 k (fun i hi => FB0.out i (by omega)) (fun i hi => FB1.out i (by omega)) (fun i hi => FB2.out i (by omega)) (fun i hi => by rw [HX.out i]; rfl)
      have xb : ∀ i, i < k → 0 ≤ X i ∧ X i ≤ 255 := fun i hi => by
        rw [HX.out i]
        have h0 := FB0.out i (by omega); have h1 := FB1.out i (by omega); have h2 := FB2.out i (by omega)
        have := Nat.xor_lt_two_pow (n := 8) (Nat.xor_lt_two_pow (n := 8) (show (F0 i).toNat < 2 ^ 8 by omega) (show (F1 i).toNat < 2 ^ 8 by omega)) (show (F2 i).toNat < 2 ^ 8 by omega)
        omega
      have q0 := cks_bd F0 k (fun i hi => FB0.out i (by omega))
      have q1 := cks_bd F1 k (fun i hi => FB1.out i (by omega))
      have q2 := cks_bd F2 k (fun i hi => FB2.out i (by omega))
      have q3 := cks_bd X k xb
      have s3 := fun N => sum_w (some ⟨g, 0, none⟩) k k g 0 X (by unfold maxLen; omega) xb (wr.drewN N) (fun _ => rfl) hB TR
      have lo : ∀ (b o n : Nat) (F : Nat → Int), By w1 b o n F → k ≤ n → ∀ i, i < k → wr.cell? ⟨b, o + i, none⟩ = some (.int .u8 (F i)) := fun b o n F h hk i hi => (r1.cell (World.block_lt_of_cell? _ _ (h i (by omega)))).trans (h i (by omega))
      have s0 := fun N => sum_w p0 k c0 b0 o0 F0 (by unfold maxLen; omega) (fun i hi => FB0.out i (by omega)) (wr.drewN N) (fun h => QP0.out (by omega)) (lo _ _ _ _ C0.out (by omega)) TR
      have s1 := fun N => sum_w p1 k c1 b1 o1 F1 (by unfold maxLen; omega) (fun i hi => FB1.out i (by omega)) (wr.drewN N) (fun h => QP1.out (by omega)) (lo _ _ _ _ C1.out (by omega)) TR
      have s2 := fun N => sum_w p2 k c2 b2 o2 F2 (by unfold maxLen; omega) (fun i hi => FB2.out i (by omega)) (wr.drewN N) (fun h => QP2.out (by omega)) (lo _ _ _ _ C2.out (by omega)) TR
      have x1 := u32_xor (cks 0 F0 k) (cks 0 F1 k) (by omega) (by omega) (by omega) (by omega)
      obtain ⟨v3, hv3⟩ : ∃ v3 : Nat, (cks 0 F0 k).toNat ^^^ (cks 0 F1 k).toNat = v3 := ⟨_, rfl⟩
      have hv3l : v3 < 4294967296 := by rw [← hv3]; exact Nat.xor_lt_two_pow (n := 32) (by omega) (by omega)
      rw [hv3] at x1 e3
      have x2 := u32_xor v3 (cks 0 F2 k) (by omega) (by omega) (by omega) (by omega)
      rw [show (v3 : Int).toNat = v3 from rfl, ← e3, show (((cks 0 X k).toNat : Nat) : Int) = cks 0 X k by omega] at x2
      generalize cks 0 X k = y3 at s3 x2 q3
      generalize cks 0 F0 k = y0 at s0 x1 q0
      generalize cks 0 F1 k = y1 at s1 x1 q1
      generalize cks 0 F2 k = y2 at s2 x2 q2
      clear e3 hv3 hB TR lo xb hR r4
      go_wp2_with fail
      go_quiet ((go_at_call 15; (first | (with_reducible exact quiet_eq (s3 _)) | (with_reducible exact quiet_eq (s0 _)) | (with_reducible exact quiet_eq (s1 _)) | (with_reducible exact quiet_eq (s2 _)))))
      go_wp2
      go_ret
      exact ⟨by first | rfl | simp, (hk.trans r1).drewN _⟩
end Go.Proofs.YtbldklaipdbdjaaDoor
