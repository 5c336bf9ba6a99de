/-
  The laws of layer 6 on checksums that are put together; walks.
-/
import Derived.Test.YtbldklaipdbdjaaDoorCrcr
import Derived.Laws.Rows
import Derived.Laws.Tables
import Derived.Laws.CopyOwn
import Derived.WalkKit
import Derived.ProofKit
import Derived.OpenShut
import Derived.WalkLawsBesides
import Derived.WalkSpells
import Derived.Lib.Hide
import Derived.Deep.DeepCutAuto
import Derived.Deep.CutBlock
import Derived.Deep.QuietTactic
import Derived.BigQuiet
import Derived.Handy
import Derived.StillTailTactics
import Derived.IntWalk
import Derived.LoopN
import Derived.Deep.RegionHeld3
namespace Go.Proofs.YtbldklaipdbdjaaDoor
open Go.ChangeShapes Go.WideShapes Go.ChangeAt Go.RowKit
set_option linter.unusedVariables false
set_option linter.unusedSimpArgs false

/-- the row of a map of registers -/
def mrow (M : Nat → Nat) : Array Value := ((List.range 32).map (fun i => Value.int .u32 ((M i : Nat) : Int))).toArray
theorem mrow_size (M : Nat → Nat) : (mrow M).size = 32 := by simp [mrow]
theorem mrow_get (M : Nat → Nat) (i : Nat) (h : i < 32) : (mrow M)[i]? = some (.int .u32 ((M i : Nat) : Int)) := by simp [mrow, h]
theorem mrow_one (M : Nat → Nat) : (mrow M).all (·.oneCell') = true := by
  rw [Array.all_eq_true_iff_forall_mem]
  intro v hv
  simp [mrow] at hv
  obtain ⟨i, _, rfl⟩ := hv
  rfl
theorem mrow_congr {M N : Nat → Nat} (h : ∀ i, i < 32 → M i = N i) : mrow M = mrow N := by
  unfold mrow
  congr 1
  exact List.map_congr_left (fun i hi => by rw [h i (by simpa using hi)])
theorem mrow_set (M : Nat → Nat) (k y : Nat) (hk : k < 32) : (mrow M).setIfInBounds k (.int .u32 ((y : Nat) : Int)) = mrow (fun i => if i = k then y else M i) := by
  apply Array.ext_getElem?
  intro i
  rw [Array.getElem?_setIfInBounds]
  by_cases h : k = i
  · subst h
    rw [if_pos rfl, mrow_size, if_pos hk, mrow_get _ k hk, if_pos rfl]
  · rw [if_neg h]
    by_cases hi : i < 32
    · rw [mrow_get _ i hi, mrow_get _ i hi, if_neg (fun e => h e.symm)]
    · rw [Array.getElem?_eq_none (by rw [mrow_size]; omega), Array.getElem?_eq_none (by rw [mrow_size]; omega)]
/-- block g holds a map -/
def Mat (w : World) (g : Nat) (M : Nat → Nat) : Prop := w.heap[g]? = some (.cells (mrow M) 52 (0, 0))
theorem Mat.cell {w : World} {g : Nat} {M : Nat → Nat} (h : Mat w g M) (i : Nat) (hi : i < 32) : w.cell? ⟨g, i, none⟩ = some (.int .u32 ((M i : Nat) : Int)) := by
  rw [cell_of_row w g i _ _ _ h, mrow_get M i hi]
theorem Mat.lt {w : World} {g : Nat} {M : Nat → Nat} (h : Mat w g M) : g < w.heap.size := World.block_lt_of_cell? _ _ (h.cell 0 (by omega))
theorem Mat.kept {w w' : World} {g : Nat} {M : Nat → Nat} (h : Mat w g M) (hk : Kept w w') : Mat w' g M := (hk.block g h.lt).trans h
theorem Mat.set {w : World} {g : Nat} {M : Nat → Nat} (h : Mat w g M) (k y : Nat) (hk : k < 32) : Mat (w.setCell ⟨g, k, none⟩ (.int .u32 ((y : Nat) : Int))) g (fun i => if i = k then y else M i) := by
  unfold Mat
  rw [heap_setCell_same w g k _ _ _ h, mrow_set M k y hk]
theorem Mat.other {w : World} {g g' : Nat} {M : Nat → Nat} (h : Mat w g M) (k : Nat) (v : Value) (hne : g ≠ g') : Mat (w.setCell ⟨g', k, none⟩ v) g M :=
  (heap_setCell_other w ⟨g', k, none⟩ g v hne).trans h
/-- a map of registers, put to use -/
def apl (M : Nat → Nat) (r : Nat) : Nat → Nat
  | 0 => 0
  | k + 1 => if r / 2 ^ k % 2 = 1 then apl M r k ^^^ M k else apl M r k
theorem apl_lt (M : Nat → Nat) (r : Nat) (hM : ∀ i, i < 32 → M i < 4294967296) : ∀ k, k ≤ 32 → apl M r k < 4294967296
  | 0, _ => Nat.zero_lt_succ _
  | k + 1, hk => by
    unfold apl
    split
    · exact Nat.xor_lt_two_pow (n := 32) (apl_lt M r hM k (by omega)) (hM k (by omega))
    · exact apl_lt M r hM k (by omega)
theorem itb_nul : ∀ k, itb 0 k = 0 | 0 => rfl | k + 1 => by show bst (itb 0 k) = 0; rw [itb_nul k]; rfl
theorem mod_succ (r k : Nat) : r % 2 ^ (k + 1) = if r / 2 ^ k % 2 = 1 then r % 2 ^ k ^^^ 2 ^ k else r % 2 ^ k := by
  apply Nat.eq_of_testBit_eq
  intro j
  have hb : r.testBit k = decide (r / 2 ^ k % 2 = 1) := Nat.testBit_eq_decide_div_mod_eq
  rw [Nat.testBit_mod_two_pow]
  by_cases h : r / 2 ^ k % 2 = 1
  · rw [if_pos h, Nat.testBit_xor, Nat.testBit_mod_two_pow, Nat.testBit_two_pow]
    by_cases e : k = j
    · subst e; simp [hb, h]
    · by_cases l : j < k
      · simp [l, e, show j < k + 1 by omega]
      · simp [l, e, show ¬ j < k + 1 by omega]
  · rw [if_neg h, Nat.testBit_mod_two_pow]
    by_cases e : k = j
    · subst e; simp [hb, h]
    · by_cases l : j < k
      · simp [l, show j < k + 1 by omega]
      · simp [l, show ¬ j < k + 1 by omega]
theorem apl_itb (M : Nat → Nat) (s r : Nat) (hM : ∀ i, i < 32 → M i = itb (2 ^ i) s) : ∀ k, k ≤ 32 → apl M r k = itb (r % 2 ^ k) s
  | 0, _ => by rw [Nat.pow_zero, Nat.mod_one, itb_nul]; rfl
  | k + 1, hk => by
    unfold apl
    rw [mod_succ, apl_itb M s r hM k (by omega)]
    split
    · rw [itb_xor, hM k (by omega)]
    · rfl
theorem apl_all (M : Nat → Nat) (s r : Nat) (hr : r < 4294967296) (hM : ∀ i, i < 32 → M i = itb (2 ^ i) s) : apl M r 32 = itb r s := by
  rw [apl_itb M s r hM 32 (Nat.le_refl _), Nat.mod_eq_of_lt (by omega)]
set_option maxHeartbeats 4000000 in
set_option maxRecDepth 100000 in
theorem apply_w (g : Nat) (M : Nat → Nat) (hM : ∀ i, i < 32 → M i < 4294967296) (r : Nat) (hr : r < 4294967296) (w : World) (h : Mat w g M) : Calls Tryd.prog 35 #[.pointer (some ⟨g, 0, none⟩), .int .u32 r] w fun en w' => en = .returned (.int .u32 (apl M r 32 : Nat)) ∧ w = w' := by
  have H := Lib.hid h
  have HM := Lib.hid hM
  clear h hM
  go_enter Tryd.func35, Tryd.ntmps35
  go_wp2_with fail
  go_loop [5, 7] (fun t i => ∃ k : Nat, k ≤ 32 ∧ i = .int .i64 k ∧ t = .int .u32 (apl M r k : Nat)) (fun _ i => 32 - (intOf i).toNat)
  case atStart => exact ⟨0, by omega, rfl, rfl⟩
  case round =>
    obtain ⟨k, hk, rfl, rfl⟩ := hrel
    have hl := apl_lt M r HM.out k hk
    generalize hs : apl M r k = x at hl ⊢
    have HS := Lib.hid hs
    clear hs
    by_cases hlt : k < 32
    · have d0 := H.out.cell k hlt
      have hba := bit_and r k hr
      have h01 : r / 2 ^ k % 2 = 0 ∨ r / 2 ^ k % 2 = 1 := by omega
      have hkk : (0 : Int) ≤ (k : Int) := by omega
      have mk := HM.out k hlt
      rcases h01 with hb | hb
      · rw [hb] at hba
        have HB := Lib.hid hb
        clear hb d0
        go_wp2_with fail
        exact ⟨⟨k + 1, by omega, by go_num, by show _ = Value.int .u32 ((if r / 2 ^ k % 2 = 1 then _ else _ : Nat) : Int); rw [if_neg (by have := HB.out; omega), HS.out]⟩, by simp [intOf]; omega⟩
      · rw [hb] at hba
        have HB := Lib.hid hb
        clear hb
        have hx := u32_xor (x : Int) (M k : Int) (by omega) (by omega) (by omega) (by omega)
        simp only [Int.toNat_natCast] at hx
        generalize hy : M k = y at d0 hx mk
        have HY := Lib.hid hy
        generalize hz : x ^^^ y = z at hx
        have HZ := Lib.hid hz
        clear hy hz
        go_wp2_with fail
        exact ⟨⟨k + 1, by omega, by go_num, by show _ = Value.int .u32 ((if r / 2 ^ k % 2 = 1 then _ else _ : Nat) : Int); rw [if_pos HB.out, HS.out, HY.out, HZ.out]⟩, by simp [intOf]; omega⟩
    · obtain rfl : k = 32 := by omega
      go_wp2_with fail
      go_ret
      exact ⟨by rw [HS.out]; rfl, rfl⟩
theorem i64_and1 (n : Int) : bits .and .i64 n 1 = n % 2 := by
  have h1 : (BitVec.ofInt 64 1).toNat = 2 ^ 1 - 1 := by decide
  have key : (BitVec.ofInt 64 n &&& BitVec.ofInt 64 1).toNat = (n % ((2 ^ 64 : Nat) : Int)).toNat % 2 ^ 1 := by
    rw [BitVec.toNat_and, BitVec.toNat_ofInt, h1, Nat.and_two_pow_sub_one_eq_mod]
  show IntKind.i64.wrap ((BitVec.ofInt 64 n &&& BitVec.ofInt 64 1).toNat : Nat) = n % 2
  rw [key, IntKind.wrap_i64]
  omega
/-- two maps, the first k entries of the second of which are done -/
def SqR (w wr : World) (k : Nat) (N : Nat → Nat) : Prop := Kept w wr ∧ Mat wr w.heap.size (fun _ => 0) ∧ Mat wr (w.heap.size + 1) (fun i => if i < k then N i else 0)
theorem sqr_step {w wr : World} {k : Nat} {N : Nat → Nat} (h : SqR w wr k N) (hk : k < 32) : SqR w (wr.setCell ⟨w.heap.size + 1, k, none⟩ (.int .u32 ((N k : Nat) : Int))) (k + 1) N := by
  obtain ⟨h1, h2, h3⟩ := h
  refine ⟨h1.setCell (by simp) _, h2.other k _ (by omega), ?_⟩
  have := h3.set k (N k) hk
  unfold Mat at this ⊢
  rw [this]
  congr 2
  apply mrow_congr
  intro i hi
  by_cases e : i = k
  · subst e; rw [if_pos rfl, if_pos (by omega)]
  · rw [if_neg e]
    by_cases e2 : i < k
    · rw [if_pos e2, if_pos (by omega)]
    · rw [if_neg e2, if_neg (by omega)]
theorem mrow_zero : mrow (fun _ => 0) = #[.int .u32 0, .int .u32 0, .int .u32 0, .int .u32 0, .int .u32 0, .int .u32 0, .int .u32 0, .int .u32 0, .int .u32 0, .int .u32 0, .int .u32 0, .int .u32 0, .int .u32 0, .int .u32 0, .int .u32 0, .int .u32 0, .int .u32 0, .int .u32 0, .int .u32 0, .int .u32 0, .int .u32 0, .int .u32 0, .int .u32 0, .int .u32 0, .int .u32 0, .int .u32 0, .int .u32 0, .int .u32 0, .int .u32 0, .int .u32 0, .int .u32 0, .int .u32 0] := by rfl
theorem sqr_start (w : World) (N : Nat → Nat) : SqR w ((w.alloc (.cells #[.int .u32 0, .int .u32 0, .int .u32 0, .int .u32 0, .int .u32 0, .int .u32 0, .int .u32 0, .int .u32 0, .int .u32 0, .int .u32 0, .int .u32 0, .int .u32 0, .int .u32 0, .int .u32 0, .int .u32 0, .int .u32 0, .int .u32 0, .int .u32 0, .int .u32 0, .int .u32 0, .int .u32 0, .int .u32 0, .int .u32 0, .int .u32 0, .int .u32 0, .int .u32 0, .int .u32 0, .int .u32 0, .int .u32 0, .int .u32 0, .int .u32 0, .int .u32 0] 52)).alloc (.cells #[.int .u32 0, .int .u32 0, .int .u32 0, .int .u32 0, .int .u32 0, .int .u32 0, .int .u32 0, .int .u32 0, .int .u32 0, .int .u32 0, .int .u32 0, .int .u32 0, .int .u32 0, .int .u32 0, .int .u32 0, .int .u32 0, .int .u32 0, .int .u32 0, .int .u32 0, .int .u32 0, .int .u32 0, .int .u32 0, .int .u32 0, .int .u32 0, .int .u32 0, .int .u32 0, .int .u32 0, .int .u32 0, .int .u32 0, .int .u32 0, .int .u32 0, .int .u32 0] 52)) 0 N := by
  refine ⟨((Kept.refl w).alloc _).alloc _, ?_, ?_⟩
  · unfold Mat; rw [mrow_zero]; exact heap_alloc2_old w _ _
  · unfold Mat
    rw [show mrow (fun i => if i < 0 then N i else 0) = mrow (fun _ => 0) from mrow_congr (fun i _ => if_neg (by omega)), mrow_zero]
    exact heap_alloc2_new w _ _
/-- a map comes back -/
def GotM (w : World) (N : Nat → Nat) (e : Ending) (w' : World) : Prop := e = .returned (.agg (mrow N)) ∧ Kept w w'
theorem kept_setRow {a b : World} (h : Kept a b) {g : Nat} (hg : a.heap.size ≤ g) (cs : Array Value) : Kept a (b.setRow g cs) :=
  ⟨h.os, h.output, by have := h.size; simpa [World.setRow] using this, fun k hk => (setRow_other b g k cs (by omega)).trans (h.block k hk)⟩
theorem inf_mat (M : Nat → Nat) : (Tryd.prog.info? 52).map (·.size) = some (mrow M).size := by rw [mrow_size]; kernel_rfl
set_option maxHeartbeats 4000000 in
set_option maxRecDepth 100000 in
theorem zero_w (w : World) : Calls Tryd.prog 34 #[] w (GotM w (fun i => itb (2 ^ i) 8)) := by
  go_enter Tryd.func34, Tryd.ntmps34
  go_wp2_with fail
  have L0 := sqr_start w (fun i => itb (2 ^ i) 8)
  generalize (w.alloc (.cells #[.int .u32 0, .int .u32 0, .int .u32 0, .int .u32 0, .int .u32 0, .int .u32 0, .int .u32 0, .int .u32 0, .int .u32 0, .int .u32 0, .int .u32 0, .int .u32 0, .int .u32 0, .int .u32 0, .int .u32 0, .int .u32 0, .int .u32 0, .int .u32 0, .int .u32 0, .int .u32 0, .int .u32 0, .int .u32 0, .int .u32 0, .int .u32 0, .int .u32 0, .int .u32 0, .int .u32 0, .int .u32 0, .int .u32 0, .int .u32 0, .int .u32 0, .int .u32 0] 52)).alloc (.cells #[.int .u32 0, .int .u32 0, .int .u32 0, .int .u32 0, .int .u32 0, .int .u32 0, .int .u32 0, .int .u32 0, .int .u32 0, .int .u32 0, .int .u32 0, .int .u32 0, .int .u32 0, .int .u32 0, .int .u32 0, .int .u32 0, .int .u32 0, .int .u32 0, .int .u32 0, .int .u32 0, .int .u32 0, .int .u32 0, .int .u32 0, .int .u32 0, .int .u32 0, .int .u32 0, .int .u32 0, .int .u32 0, .int .u32 0, .int .u32 0, .int .u32 0, .int .u32 0] 52) = wa at L0 ⊢
  have LH := Lib.hid L0
  clear L0
  go_loopw [4] (fun i wr => ∃ k : Nat, k ≤ 32 ∧ i = .int .i64 k ∧ Hid (SqR w wr k (fun i => itb (2 ^ i) 8))) (fun i _ => 32 - (intOf i).toNat)
  case atStart => exact ⟨0, by omega, rfl, LH⟩
  case round =>
    obtain ⟨k, hk, rfl, hR⟩ := hrel
    by_cases hlt : k < 32
    · have hkk : (0 : Int) ≤ (k : Int) := by omega
      have p0 : 2 ^ k < 4294967296 := Nat.pow_lt_pow_right (a := 2) (m := k) (n := 32) (by omega) hlt
      have e0 : (2 : Int) ^ k % 4294967296 = ((2 ^ k : Nat) : Int) := by
        rw [show (2 : Int) ^ k = ((2 ^ k : Nat) : Int) by push_cast; rfl]
        generalize 2 ^ k = x at p0 ⊢
        omega
      obtain ⟨x, hx⟩ : ∃ x : Nat, 2 ^ k = x := ⟨_, rfl⟩
      rw [hx] at e0 p0
      have HX := Lib.hid hx
      clear hx
      go_wp2_with fail
      obtain ⟨wo, rfl⟩ : ∃ wo : World, wo = wr := ⟨_, rfl⟩
      go_loop [3, 9] (fun r i => ∃ j : Nat, j ≤ 8 ∧ i = .int .i64 j ∧ r = .int .u32 (itb x j : Nat)) (fun _ i => 8 - (intOf i).toNat)
      case atStart => exact ⟨0, Nat.zero_le _, rfl, by rw [e0]; rfl⟩
      case round =>
        obtain ⟨j, hj, rfl, rfl⟩ := hrel
        have hl := itb_lt x p0 j
        generalize hs : itb x j = v at hl ⊢
        have HS := Lib.hid hs
        clear hs
        by_cases hlj : j < 8
        · have ha := and1 v hl
          have hd : v % 2 = 0 ∨ v % 2 = 1 := by omega
          rcases hd with hd | hd
          · rw [hd] at ha
            have hev := bst_evn v hd
            clear hd
            go_wp2_with fail
            exact ⟨⟨j + 1, by omega, by go_num, by simp only [itb, HS.out] <;> rw [hev]⟩, by simp [intOf]; omega⟩
          · rw [hd] at ha
            obtain ⟨z, hz, hX2⟩ := bst_odd v hl hd
            have HZ := Lib.hid hz
            clear hd hz
            go_wp2_with fail
            exact ⟨⟨j + 1, by omega, by go_num, by simp only [itb, HS.out] <;> rw [HZ.out]⟩, by simp [intOf]; omega⟩
        · obtain rfl : j = 8 := by omega
          have d0 := hR.out.2.2.cell k hlt
          rw [if_neg (by omega)] at d0
          have fz := frozen_of_row wo (w.heap.size + 1) k _ _ hR.out.2.2
          have HN := sqr_step hR.out hlt
          simp only [HX.out, HS.out] at HN
          have HNH := Lib.hid HN
          clear HN
          go_wp2_with fail
          go_roundw
          case rel => exact ⟨k + 1, by omega, by go_num, HNH⟩
          case measure => simp [intOf]; omega
    · obtain rfl : k = 32 := by omega
      have hm2 := hR.out.2.2
      have hm1 := hR.out.2.1
      have hk0 := hR.out.1
      unfold Mat at hm1
      rw [Mat, show mrow _ = mrow (fun i => itb (2 ^ i) 8) from mrow_congr (fun i hi => by rw [if_pos hi])] at hm2
      have HM1 := Lib.hid hm1
      have HM2 := Lib.hid hm2
      have HK0 := Lib.hid hk0
      clear hm1 hm2 hk0
      go_wp2_with (first | (with_reducible refine wpList_load_row rfl 52 _ rfl (w.heap.size + 1) rfl 52 (mrow (fun i => itb (2 ^ i) 8)) (0, 0) _ HM2.out Tryd.underlying52 rfl (inf_mat _) ?_) | (with_reducible refine wpList_store_row rfl 52 _ _ rfl w.heap.size (mrow (fun i => itb (2 ^ i) 8)) rfl rfl 52 (mrow (fun _ => 0)) HM1.out (inf_mat _) (by rw [mrow_size, mrow_size]) (mrow_one _) ?_))
      exact bodyPost_ret (v := .agg (mrow (fun i => itb (2 ^ i) 8))) (results_cell_row rfl _ _ w.heap.size 52 (mrow (fun i => itb (2 ^ i) 8)) (0, 0) _ rfl (setRow_heap _ _ _ _ _ _ HM1.out) Tryd.underlying52 rfl (inf_mat _)) rfl ⟨rfl, kept_setRow HK0.out (Nat.le_refl _) _⟩
set_option maxHeartbeats 4000000 in
set_option maxRecDepth 100000 in
theorem twice_w (g : Nat) (M : Nat → Nat) (hM : ∀ i, i < 32 → M i < 4294967296) (w : World) (h : Mat w g M) : Calls Tryd.prog 36 #[.pointer (some ⟨g, 0, none⟩)] w (GotM w (fun i => apl M (M i) 32)) := by
  have H := Lib.hid h
  have HM := Lib.hid hM
  clear h hM
  obtain ⟨N, hN⟩ : ∃ N : Nat → Nat, ∀ i, N i = apl M (M i) 32 := ⟨_, fun _ => rfl⟩
  have HN := Lib.hid hN
  rw [show (fun i => apl M (M i) 32) = N from (funext hN).symm]
  clear hN
  go_enter Tryd.func36, Tryd.ntmps36
  go_wp2_with fail
  have L0 := sqr_start w N
  generalize (w.alloc (.cells #[.int .u32 0, .int .u32 0, .int .u32 0, .int .u32 0, .int .u32 0, .int .u32 0, .int .u32 0, .int .u32 0, .int .u32 0, .int .u32 0, .int .u32 0, .int .u32 0, .int .u32 0, .int .u32 0, .int .u32 0, .int .u32 0, .int .u32 0, .int .u32 0, .int .u32 0, .int .u32 0, .int .u32 0, .int .u32 0, .int .u32 0, .int .u32 0, .int .u32 0, .int .u32 0, .int .u32 0, .int .u32 0, .int .u32 0, .int .u32 0, .int .u32 0, .int .u32 0] 52)).alloc (.cells #[.int .u32 0, .int .u32 0, .int .u32 0, .int .u32 0, .int .u32 0, .int .u32 0, .int .u32 0, .int .u32 0, .int .u32 0, .int .u32 0, .int .u32 0, .int .u32 0, .int .u32 0, .int .u32 0, .int .u32 0, .int .u32 0, .int .u32 0, .int .u32 0, .int .u32 0, .int .u32 0, .int .u32 0, .int .u32 0, .int .u32 0, .int .u32 0, .int .u32 0, .int .u32 0, .int .u32 0, .int .u32 0, .int .u32 0, .int .u32 0, .int .u32 0, .int .u32 0] 52) = wa at L0 ⊢
  have LH := Lib.hid L0
  clear L0
  go_loopw [5] (fun i wr => ∃ k : Nat, k ≤ 32 ∧ i = .int .i64 k ∧ Hid (SqR w wr k N)) (fun i _ => 32 - (intOf i).toNat)
  case atStart => exact ⟨0, by omega, rfl, LH⟩
  case round =>
    obtain ⟨k, hk, rfl, hR⟩ := hrel
    by_cases hlt : k < 32
    · have hkk : (0 : Int) ≤ (k : Int) := by omega
      have HW := Lib.hid (H.out.kept hR.out.1)
      have d1 := HW.out.cell k hlt
      have d0 := hR.out.2.2.cell k hlt
      rw [if_neg (by omega)] at d0
      have fz := frozen_of_row wr (w.heap.size + 1) k _ _ hR.out.2.2
      have ca := apply_w g M HM.out (M k) (HM.out k hlt) wr HW.out
      rw [← HN.out k] at ca
      have HNH := Lib.hid (sqr_step hR.out hlt)
      generalize M k = x at d1 ca
      obtain ⟨y, hy⟩ : ∃ y, N k = y := ⟨_, rfl⟩
      rw [hy] at ca HNH
      clear hy
      go_wp2_with fail
      refine ca.mono ?_
      rintro e w' ⟨rfl, rfl⟩
      go_wp2_with fail
      go_roundw
      case rel => exact ⟨k + 1, by omega, by go_num, HNH⟩
      case measure => simp [intOf]; omega
    · obtain rfl : k = 32 := by omega
      have hm2 := hR.out.2.2
      have hm1 := hR.out.2.1
      have hk0 := hR.out.1
      unfold Mat at hm1
      rw [Mat, show mrow _ = mrow N from mrow_congr (fun i hi => by rw [if_pos hi])] at hm2
      have HM1 := Lib.hid hm1
      have HM2 := Lib.hid hm2
      have HK0 := Lib.hid hk0
      clear hm1 hm2 hk0
      go_wp2_with (first | (with_reducible refine wpList_load_row rfl 52 _ rfl (w.heap.size + 1) rfl 52 (mrow N) (0, 0) _ HM2.out Tryd.underlying52 rfl (inf_mat _) ?_) | (with_reducible refine wpList_store_row rfl 52 _ _ rfl w.heap.size (mrow N) rfl rfl 52 (mrow (fun _ => 0)) HM1.out (inf_mat _) (by rw [mrow_size, mrow_size]) (mrow_one _) ?_))
      exact bodyPost_ret (v := .agg (mrow N)) (results_cell_row rfl _ _ w.heap.size 52 (mrow N) (0, 0) _ rfl (setRow_heap _ _ _ _ _ _ HM1.out) Tryd.underlying52 rfl (inf_mat _)) rfl ⟨rfl, kept_setRow HK0.out (Nat.le_refl _) _⟩
/-- what two checksums come to, put together -/
def cmb (a b n : Nat) : Nat := itb a (8 * n) ^^^ b
/-- the state of the loop: the map of s steps, n bytes of the map's still to go -/
def CmR (w wr : World) (g a0 N a n : Nat) : Prop := ∃ s, Kept w wr ∧ w.heap.size ≤ g ∧ Mat wr g (fun i => itb (2 ^ i) s) ∧ a < 4294967296 ∧ itb a (s * n) = itb a0 (8 * N)
theorem combine_neg (a b : Nat) (n : Int) (n0 : -9223372036854775808 ≤ n) (hn : n < 0) (w : World) : Calls Tryd.prog 19 #[.int .u32 a, .int .u32 b, .int .i64 n] w fun en w' => en = .returned (.int .u32 0) ∧ w = w' := by
  go_enter Tryd.func19, Tryd.ntmps19
  go_wp2
  all_goals (go_ret; exact ⟨rfl, rfl⟩)
theorem zl_size (M : Nat → Nat) : ((#[.int .u32 0, .int .u32 0, .int .u32 0, .int .u32 0, .int .u32 0, .int .u32 0, .int .u32 0, .int .u32 0, .int .u32 0, .int .u32 0, .int .u32 0, .int .u32 0, .int .u32 0, .int .u32 0, .int .u32 0, .int .u32 0, .int .u32 0, .int .u32 0, .int .u32 0, .int .u32 0, .int .u32 0, .int .u32 0, .int .u32 0, .int .u32 0, .int .u32 0, .int .u32 0, .int .u32 0, .int .u32 0, .int .u32 0, .int .u32 0, .int .u32 0, .int .u32 0] : Array Value)).size = (mrow M).size := by rw [mrow_size]; rfl
theorem setRow_size (w : World) (g : Nat) (cs : Array Value) : (w.setRow g cs).heap.size = w.heap.size := by simp [World.setRow]
theorem new_row (w : World) (g : Nat) (cs : Array Value) (o : Obj) : ((w.setRow g cs).alloc o).heap[w.heap.size]? = some o := by
  have := heap_alloc_new (w.setRow g cs) o
  rwa [setRow_size] at this
theorem pow_lt32 (i : Nat) (h : i < 32) : 2 ^ i < 4294967296 := Nat.pow_lt_pow_right (a := 2) (n := 32) (by omega) h
set_option maxHeartbeats 4000000 in
set_option maxRecDepth 100000 in
theorem combine_w (a b : Nat) (ha : a < 4294967296) (hb : b < 4294967296) (n : Nat) (hn : n ≤ 1000000) (w : World) : Calls Tryd.prog 19 #[.int .u32 a, .int .u32 b, .int .i64 (n : Int)] w fun en w' => en = .returned (.int .u32 (cmb a b n : Nat)) ∧ Kept w w' := by
  obtain ⟨N0, hN0⟩ : ∃ N0 : Nat → Nat, (fun i => itb (2 ^ i) 8) = N0 := ⟨_, rfl⟩
  have hz := zero_w w
  rw [hN0] at hz
  go_enter Tryd.func19, Tryd.ntmps19
  go_wp2_with fail
  refine hz.mono ?_
  rintro e w1 ⟨rfl, hk⟩
  have hnn : (0 : Int) ≤ (n : Int) := by omega
  go_wp2_with (with_reducible refine wpList_store_row rfl 52 _ _ rfl w1.heap.size (mrow N0) rfl rfl 52 #[.int .u32 0, .int .u32 0, .int .u32 0, .int .u32 0, .int .u32 0, .int .u32 0, .int .u32 0, .int .u32 0, .int .u32 0, .int .u32 0, .int .u32 0, .int .u32 0, .int .u32 0, .int .u32 0, .int .u32 0, .int .u32 0, .int .u32 0, .int .u32 0, .int .u32 0, .int .u32 0, .int .u32 0, .int .u32 0, .int .u32 0, .int .u32 0, .int .u32 0, .int .u32 0, .int .u32 0, .int .u32 0, .int .u32 0, .int .u32 0, .int .u32 0, .int .u32 0] (heap_alloc_new w1 _) (inf_mat _) (zl_size _) (mrow_one _) ?_)
  obtain ⟨g, hg⟩ : ∃ g, w1.heap.size = g := ⟨_, rfl⟩
  have k2 : Kept w ((w1.alloc (.cells #[.int .u32 0, .int .u32 0, .int .u32 0, .int .u32 0, .int .u32 0, .int .u32 0, .int .u32 0, .int .u32 0, .int .u32 0, .int .u32 0, .int .u32 0, .int .u32 0, .int .u32 0, .int .u32 0, .int .u32 0, .int .u32 0, .int .u32 0, .int .u32 0, .int .u32 0, .int .u32 0, .int .u32 0, .int .u32 0, .int .u32 0, .int .u32 0, .int .u32 0, .int .u32 0, .int .u32 0, .int .u32 0, .int .u32 0, .int .u32 0, .int .u32 0, .int .u32 0] 52)).setRow w1.heap.size (mrow N0)) := kept_setRow (hk.alloc _) hk.size _
  have m2 : Mat ((w1.alloc (.cells #[.int .u32 0, .int .u32 0, .int .u32 0, .int .u32 0, .int .u32 0, .int .u32 0, .int .u32 0, .int .u32 0, .int .u32 0, .int .u32 0, .int .u32 0, .int .u32 0, .int .u32 0, .int .u32 0, .int .u32 0, .int .u32 0, .int .u32 0, .int .u32 0, .int .u32 0, .int .u32 0, .int .u32 0, .int .u32 0, .int .u32 0, .int .u32 0, .int .u32 0, .int .u32 0, .int .u32 0, .int .u32 0, .int .u32 0, .int .u32 0, .int .u32 0, .int .u32 0] 52)).setRow w1.heap.size (mrow N0)) w1.heap.size N0 := setRow_heap _ _ _ _ _ _ (heap_alloc_new w1 _)
  rw [hg] at k2 m2 ⊢
  generalize (w1.alloc (.cells #[.int .u32 0, .int .u32 0, .int .u32 0, .int .u32 0, .int .u32 0, .int .u32 0, .int .u32 0, .int .u32 0, .int .u32 0, .int .u32 0, .int .u32 0, .int .u32 0, .int .u32 0, .int .u32 0, .int .u32 0, .int .u32 0, .int .u32 0, .int .u32 0, .int .u32 0, .int .u32 0, .int .u32 0, .int .u32 0, .int .u32 0, .int .u32 0, .int .u32 0, .int .u32 0, .int .u32 0, .int .u32 0, .int .u32 0, .int .u32 0, .int .u32 0, .int .u32 0] 52)).setRow g (mrow N0) = w2 at k2 m2 ⊢
  have HC := Lib.hid (show CmR w w2 g a n a n from ⟨8, k2, by rw [← hg]; exact hk.size, by rw [← hN0] at m2; exact m2, ha, rfl⟩)
  clear k2 m2 hg hk hN0 hz ha
  go_frame
  go_loopw [0, 2, 7] (fun x i p wr => ∃ a' n' g' : Nat, x = .int .u32 (a' : Int) ∧ i = .int .i64 (n' : Int) ∧ p = .pointer (some ⟨g', 0, none⟩) ∧ n' ≤ 1000000 ∧ Hid (CmR w wr g' a n a' n')) (fun _ i _ _ => (intOf i).toNat)
  case atStart => exact ⟨a, n, g, rfl, rfl, rfl, hn, HC⟩
  case round =>
    obtain ⟨a', n', g', rfl, rfl, rfl, hn', hR⟩ := hrel
    obtain ⟨s, kr, gb, mr, al, hs⟩ := hR.out
    by_cases h0 : n' = 0
    · subst h0
      have hx := u32_xor (a' : Int) (b : Int) (by omega) (by omega) (by omega) (by omega)
      simp only [Int.toNat_natCast] at hx
      have e : a' ^^^ b = cmb a b n := by unfold cmb; rw [← hs]; rfl
      rw [e] at hx
      have KR := Lib.hid kr
      obtain ⟨z, hz⟩ : ∃ z, cmb a b n = z := ⟨_, rfl⟩
      rw [hz] at hx
      have HZ := Lib.hid hz
      clear hz
      clear hs mr kr gb hR e
      go_wp2_with fail
      go_ret
      exact ⟨by rw [HZ.out]; rfl, KR.out⟩
    · have hpos : (0 : Int) < (n' : Int) := by omega
      obtain ⟨M, hM⟩ : ∃ M : Nat → Nat, ∀ i, M i = itb (2 ^ i) s := ⟨_, fun _ => rfl⟩
      rw [show (fun i => itb (2 ^ i) s) = M from (funext hM).symm] at mr
      have hMl : ∀ i, i < 32 → M i < 4294967296 := fun i hi => by rw [hM i]; exact itb_lt _ (pow_lt32 i hi) s
      obtain ⟨N, hN⟩ : ∃ N : Nat → Nat, ∀ i, N i = apl M (M i) 32 := ⟨_, fun _ => rfl⟩
      have hN2 : ∀ i, i < 32 → N i = itb (2 ^ i) (s + s) := fun i hi => by
        rw [hN i, apl_all M s (M i) (hMl i hi) (fun j _ => hM j), hM i, ← itb_add]
      have ct := fun W (hW : Mat W g' M) => twice_w g' M hMl W hW
      rw [show (fun i => apl M (M i) 32) = N from (funext hN).symm] at ct
      have ca := apply_w g' M hMl a' al wr mr
      rw [apl_all M s a' al (fun j _ => hM j)] at ca
      have al2 := itb_lt a' al s
      have MR := Lib.hid mr
      have KR := Lib.hid kr
      have HSS := Lib.hid hs
      have HN2 := Lib.hid hN2
      have GB := Lib.hid gb
      have CT := Lib.hid ct
      have hand := i64_and1 (n' : Int)
      clear hM hMl hN hN2 mr kr hs gb ct hR
      have h01 : n' % 2 = 0 ∨ n' % 2 = 1 := by omega
      rcases h01 with hb | hb
      · have hand2 : (n' : Int) % 2 = 0 := by omega
        rw [hand2] at hand
        clear hand2
        go_wp2_with fail
        refine (CT.out wr MR.out).mono ?_
        rintro e w3 ⟨rfl, k3⟩
        have M3 := Lib.hid (MR.out.kept k3)
        have m3 := M3.out
        unfold Mat at m3
        have M3' := Lib.hid m3
        have K3 := Lib.hid (KR.out.trans k3)
        clear k3 m3
        have M4 := Lib.hid (setRow_heap w3 g' (mrow M) (mrow N) 52 (0, 0) M3'.out)
        have K4 := Lib.hid (kept_setRow K3.out GB.out (mrow N))
        go_wp2_with (first | (with_reducible refine wpList_load_row rfl 52 _ rfl g' rfl 52 (mrow N) (0, 0) _ M4.out Tryd.underlying52 rfl (inf_mat _) ?_) | (with_reducible refine wpList_store_row rfl 52 _ _ rfl g' (mrow N) rfl rfl 52 (mrow M) M3'.out (inf_mat _) (by rw [mrow_size, mrow_size]) (mrow_one _) ?_) | (with_reducible refine wpList_store_row rfl 52 _ _ rfl w3.heap.size (mrow N) rfl rfl 52 #[.int .u32 0, .int .u32 0, .int .u32 0, .int .u32 0, .int .u32 0, .int .u32 0, .int .u32 0, .int .u32 0, .int .u32 0, .int .u32 0, .int .u32 0, .int .u32 0, .int .u32 0, .int .u32 0, .int .u32 0, .int .u32 0, .int .u32 0, .int .u32 0, .int .u32 0, .int .u32 0, .int .u32 0, .int .u32 0, .int .u32 0, .int .u32 0, .int .u32 0, .int .u32 0, .int .u32 0, .int .u32 0, .int .u32 0, .int .u32 0, .int .u32 0, .int .u32 0] (new_row w3 g' (mrow N) _) (inf_mat _) (zl_size _) (mrow_one _) ?_))
        have K5 := Lib.hid (kept_setRow (K4.out.alloc (.cells #[.int .u32 0, .int .u32 0, .int .u32 0, .int .u32 0, .int .u32 0, .int .u32 0, .int .u32 0, .int .u32 0, .int .u32 0, .int .u32 0, .int .u32 0, .int .u32 0, .int .u32 0, .int .u32 0, .int .u32 0, .int .u32 0, .int .u32 0, .int .u32 0, .int .u32 0, .int .u32 0, .int .u32 0, .int .u32 0, .int .u32 0, .int .u32 0, .int .u32 0, .int .u32 0, .int .u32 0, .int .u32 0, .int .u32 0, .int .u32 0, .int .u32 0, .int .u32 0] 52)) (show w.heap.size ≤ w3.heap.size from K3.out.size) (mrow N))
        have M5 := Lib.hid (setRow_heap _ w3.heap.size #[.int .u32 0, .int .u32 0, .int .u32 0, .int .u32 0, .int .u32 0, .int .u32 0, .int .u32 0, .int .u32 0, .int .u32 0, .int .u32 0, .int .u32 0, .int .u32 0, .int .u32 0, .int .u32 0, .int .u32 0, .int .u32 0, .int .u32 0, .int .u32 0, .int .u32 0, .int .u32 0, .int .u32 0, .int .u32 0, .int .u32 0, .int .u32 0, .int .u32 0, .int .u32 0, .int .u32 0, .int .u32 0, .int .u32 0, .int .u32 0, .int .u32 0, .int .u32 0] (mrow N) 52 (0, 0) (new_row w3 g' (mrow N) (.cells #[.int .u32 0, .int .u32 0, .int .u32 0, .int .u32 0, .int .u32 0, .int .u32 0, .int .u32 0, .int .u32 0, .int .u32 0, .int .u32 0, .int .u32 0, .int .u32 0, .int .u32 0, .int .u32 0, .int .u32 0, .int .u32 0, .int .u32 0, .int .u32 0, .int .u32 0, .int .u32 0, .int .u32 0, .int .u32 0, .int .u32 0, .int .u32 0, .int .u32 0, .int .u32 0, .int .u32 0, .int .u32 0, .int .u32 0, .int .u32 0, .int .u32 0, .int .u32 0] 52)))
        go_roundw
        case rel => exact ⟨a', n' / 2, w3.heap.size, rfl, by go_num, rfl, by omega, Lib.hid ⟨s + s, K5.out, K3.out.size, by unfold Mat; rw [mrow_congr (fun i hi => (HN2.out i hi).symm)]; exact M5.out, by first | exact al | exact al2, show itb a' ((s + s) * (n' / 2)) = itb a (8 * n) by rw [← HSS.out]; congr 1; rw [← Nat.mul_two, Nat.mul_assoc]; congr 1; omega⟩⟩
        case measure => simp [intOf]; omega
      · have hand2 : (n' : Int) % 2 = 1 := by omega
        rw [hand2] at hand
        clear hand2
        go_wp2_with fail
        refine ca.mono ?_
        rintro e w' ⟨rfl, rfl⟩
        go_wp2_with fail
        refine (CT.out wr MR.out).mono ?_
        rintro e w3 ⟨rfl, k3⟩
        have M3 := Lib.hid (MR.out.kept k3)
        have m3 := M3.out
        unfold Mat at m3
        have M3' := Lib.hid m3
        have K3 := Lib.hid (KR.out.trans k3)
        clear k3 m3
        have M4 := Lib.hid (setRow_heap w3 g' (mrow M) (mrow N) 52 (0, 0) M3'.out)
        have K4 := Lib.hid (kept_setRow K3.out GB.out (mrow N))
        go_wp2_with (first | (with_reducible refine wpList_load_row rfl 52 _ rfl g' rfl 52 (mrow N) (0, 0) _ M4.out Tryd.underlying52 rfl (inf_mat _) ?_) | (with_reducible refine wpList_store_row rfl 52 _ _ rfl g' (mrow N) rfl rfl 52 (mrow M) M3'.out (inf_mat _) (by rw [mrow_size, mrow_size]) (mrow_one _) ?_) | (with_reducible refine wpList_store_row rfl 52 _ _ rfl w3.heap.size (mrow N) rfl rfl 52 #[.int .u32 0, .int .u32 0, .int .u32 0, .int .u32 0, .int .u32 0, .int .u32 0, .int .u32 0, .int .u32 0, .int .u32 0, .int .u32 0, .int .u32 0, .int .u32 0, .int .u32 0, .int .u32 0, .int .u32 0, .int .u32 0, .int .u32 0, .int .u32 0, .int .u32 0, .int .u32 0, .int .u32 0, .int .u32 0, .int .u32 0, .int .u32 0, .int .u32 0, .int .u32 0, .int .u32 0, .int .u32 0, .int .u32 0, .int .u32 0, .int .u32 0, .int .u32 0] (new_row w3 g' (mrow N) _) (inf_mat _) (zl_size _) (mrow_one _) ?_))
        have K5 := Lib.hid (kept_setRow (K4.out.alloc (.cells #[.int .u32 0, .int .u32 0, .int .u32 0, .int .u32 0, .int .u32 0, .int .u32 0, .int .u32 0, .int .u32 0, .int .u32 0, .int .u32 0, .int .u32 0, .int .u32 0, .int .u32 0, .int .u32 0, .int .u32 0, .int .u32 0, .int .u32 0, .int .u32 0, .int .u32 0, .int .u32 0, .int .u32 0, .int .u32 0, .int .u32 0, .int .u32 0, .int .u32 0, .int .u32 0, .int .u32 0, .int .u32 0, .int .u32 0, .int .u32 0, .int .u32 0, .int .u32 0] 52)) (show w.heap.size ≤ w3.heap.size from K3.out.size) (mrow N))
        have M5 := Lib.hid (setRow_heap _ w3.heap.size #[.int .u32 0, .int .u32 0, .int .u32 0, .int .u32 0, .int .u32 0, .int .u32 0, .int .u32 0, .int .u32 0, .int .u32 0, .int .u32 0, .int .u32 0, .int .u32 0, .int .u32 0, .int .u32 0, .int .u32 0, .int .u32 0, .int .u32 0, .int .u32 0, .int .u32 0, .int .u32 0, .int .u32 0, .int .u32 0, .int .u32 0, .int .u32 0, .int .u32 0, .int .u32 0, .int .u32 0, .int .u32 0, .int .u32 0, .int .u32 0, .int .u32 0, .int .u32 0] (mrow N) 52 (0, 0) (new_row w3 g' (mrow N) (.cells #[.int .u32 0, .int .u32 0, .int .u32 0, .int .u32 0, .int .u32 0, .int .u32 0, .int .u32 0, .int .u32 0, .int .u32 0, .int .u32 0, .int .u32 0, .int .u32 0, .int .u32 0, .int .u32 0, .int .u32 0, .int .u32 0, .int .u32 0, .int .u32 0, .int .u32 0, .int .u32 0, .int .u32 0, .int .u32 0, .int .u32 0, .int .u32 0, .int .u32 0, .int .u32 0, .int .u32 0, .int .u32 0, .int .u32 0, .int .u32 0, .int .u32 0, .int .u32 0] 52)))
        go_roundw
        case rel => exact ⟨(itb a' s), n' / 2, w3.heap.size, rfl, by go_num, rfl, by omega, Lib.hid ⟨s + s, K5.out, K3.out.size, by unfold Mat; rw [mrow_congr (fun i hi => (HN2.out i hi).symm)]; exact M5.out, by first | exact al | exact al2, show itb (itb a' s) ((s + s) * (n' / 2)) = itb a (8 * n) by rw [← HSS.out, ← itb_add]; congr 1; rw [← Nat.mul_two, Nat.mul_assoc, show s + s * (2 * (n' / 2)) = s * (1 + 2 * (n' / 2)) by rw [Nat.mul_add, Nat.mul_one]]; congr 1; omega⟩⟩
        case measure => simp [intOf]; omega
theorem ref_combine_neg (a b : Nat) (n : Int) (n0 : -9223372036854775808 ≤ n) (hn : n < 0) (w : World) : Calls Tryd.prog 20 #[.int .u32 a, .int .u32 b, .int .i64 n] w fun en w' => en = .returned (.int .u32 0) ∧ w = w' := by
  go_enter Tryd.func20, Tryd.ntmps20
  go_wp2
  all_goals (go_ret; exact ⟨rfl, rfl⟩)
theorem byt_zero (r : Nat) : byt r 0 = itb r 8 := by show st4 (st4 (r ^^^ 0)) = _; rw [Nat.xor_zero]; rfl
set_option maxHeartbeats 4000000 in
set_option maxRecDepth 100000 in
theorem ref_combine_w (a b : Nat) (ha : a < 4294967296) (hb : b < 4294967296) (n : Nat) (hn : n ≤ 1000000) (w : World) : Calls Tryd.prog 20 #[.int .u32 a, .int .u32 b, .int .i64 (n : Int)] w fun en w' => en = .returned (.int .u32 (cmb a b n : Nat)) ∧ w = w' := by
  have hnn : (0 : Int) ≤ (n : Int) := by omega
  go_enter Tryd.func20, Tryd.ntmps20
  go_wp2_with fail
  go_loop [7, 8] (fun r i => ∃ k : Nat, k ≤ n ∧ i = .int .i64 (k : Int) ∧ r = .int .u32 (itb a (8 * k) : Nat)) (fun _ i => n - (intOf i).toNat)
  case atStart => exact ⟨0, by omega, rfl, rfl⟩
  case round =>
    obtain ⟨k, hk, rfl, rfl⟩ := hrel
    have hl := itb_lt a ha (8 * k)
    by_cases hlt : k < n
    · have cs := step_w (itb a (8 * k)) 0 hl (by omega)
      have e : byt (itb a (8 * k)) 0 = itb a (8 * (k + 1)) := by rw [byt_zero, ← itb_add]; rfl
      rw [e] at cs
      generalize itb a (8 * k) = x at cs hl ⊢
      obtain ⟨y, hy⟩ : ∃ y, itb a (8 * (k + 1)) = y := ⟨_, rfl⟩
      rw [hy] at cs
      have HY := Lib.hid hy
      clear hy e
      go_wp2_with fail
      refine (cs _).mono ?_
      rintro e w' ⟨rfl, rfl⟩
      go_wp2_with fail
      go_round
      case rel => exact ⟨k + 1, by omega, by go_num, by rw [HY.out]⟩
      case measure => simp [intOf]; omega
    · obtain rfl : k = n := by omega
      have hx := u32_xor (itb a (8 * k) : Nat) (b : Int) (by omega) (by omega) (by omega) (by omega)
      simp only [Int.toNat_natCast] at hx
      obtain ⟨z, hz⟩ : ∃ z, cmb a b k = z := ⟨_, rfl⟩
      have hx2 : itb a (8 * k) ^^^ b = z := hz
      rw [hx2] at hx
      have HZ := Lib.hid hz
      generalize itb a (8 * k) = x at hx hl ⊢
      clear hz hx2
      go_wp2_with fail
      go_ret
      exact ⟨by rw [HZ.out]; rfl, rfl⟩
theorem rg_lin (G : Nat → Int) (x m : Nat) : rg G x m = itb x (8 * m) ^^^ rg G 0 m := by
  have e := rg_xor G (fun _ => 0) G x 0 m (fun i _ => by simp)
  rw [Nat.xor_zero] at e
  rw [e]
  congr 1
  have h := feeds x 0 (fun _ => 0) m (fun i _ => by simp [byteOf])
  rw [Nat.xor_zero, Nat.zero_div, Nat.xor_zero, itst8_itb] at h
  exact h
theorem cmb_cks (F G : Nat → Int) (n m : Nat) (hF : ∀ i, i < n → 0 ≤ F i ∧ F i ≤ 255) (hG : ∀ i, i < m → 0 ≤ G i ∧ G i ≤ 255) :
    ((cmb (cks 0 F n).toNat (cks 0 G m).toNat m : Nat) : Int) = cks 0 (catF F n G) (n + m) := by
  have f := rg_lt F 4294967295 n (by omega) hF n (by omega)
  have g := rg_lt G 4294967295 m (by omega) hG m (by omega)
  have h := rg_lt G (rg F 4294967295 n) m f hG m (by omega)
  have eF : (cks 0 F n).toNat = 4294967295 ^^^ rg F 4294967295 n := by rw [ones_sub _ f, cks_0]; omega
  have eG : (cks 0 G m).toNat = 4294967295 ^^^ rg G 4294967295 m := by rw [ones_sub _ g, cks_0]; omega
  have eC : cks 0 (catF F n G) (n + m) = ((4294967295 ^^^ rg G (rg F 4294967295 n) m : Nat) : Int) := by
    rw [ones_sub _ h, cks_0, rg_add, rg_congr (F := fun i => catF F n G (n + i)) (G := G) (fun i _ => catF_hi F n G i), rg_congr (F := catF F n G) (G := F) (fun i hi => catF_lo F n G i hi)]
    omega
  rw [eC, eF, eG]
  unfold cmb
  rw [itb_xor, rg_lin G 4294967295 m, rg_lin G (rg F 4294967295 n) m]
  congr 1
  generalize itb 4294967295 (8 * m) = p
  generalize itb (rg F 4294967295 n) (8 * m) = q
  generalize rg G 0 m = r
  rw [← Nat.xor_assoc 4294967295 p r, Nat.xor_comm 4294967295 p, Nat.xor_assoc p 4294967295 r, Nat.xor_comm p q, Nat.xor_assoc q p, ← Nat.xor_assoc p p, Nat.xor_self, Nat.zero_xor, ← Nat.xor_assoc q, Nat.xor_comm q, Nat.xor_assoc]
set_option maxHeartbeats 4000000 in
set_option maxRecDepth 100000 in
theorem law_combines (p0 : Option Addr) (n0 c0 b0 o0 : Nat) (F0 : Nat → Int) (p1 : Option Addr) (n1 c1 b1 o1 : Nat) (F1 : Nat → Int) (n : Int) (hl0 : n0 ≤ c0) (hm0 : c0 ≤ maxLen) (fb0 : ∀ i, i < n0 → 0 ≤ F0 i ∧ F0 i ≤ 255) (hl1 : n1 ≤ c1) (hm1 : c1 ≤ maxLen) (fb1 : ∀ i, i < n1 → 0 ≤ F1 i ∧ F1 i ≤ 255) (n_0 : -9223372036854775808 ≤ n) (n_1 : n ≤ 9223372036854775807) (w : World) (hT : Hid (Tab w)) (hp0 : 0 < n0 → p0 = some ⟨b0, o0, none⟩ ∧ b0 < w.heap.size) (hn0 : p0 = none → c0 = 0) (hc0 : ∀ i, i < n0 → w.cell? ⟨b0, o0 + (i * 1 + 0), none⟩ = some (.int .u8 (F0 i))) (hp1 : 0 < n1 → p1 = some ⟨b1, o1, none⟩ ∧ b1 < w.heap.size) (hn1 : p1 = none → c1 = 0) (hc1 : ∀ i, i < n1 → w.cell? ⟨b1, o1 + (i * 1 + 0), none⟩ = some (.int .u8 (F1 i))) : Calls Tryd.prog 5 #[.slice p0 n0 c0, .slice p1 n1 c1, .int .i64 n] w fun en w' => en = .returned (.bool true) ∧ Kept w w' := by
  have s0 : Sl w p0 n0 c0 b0 o0 F0 := ⟨hl0, hm0, hn0, fun h => (hp0 h).1, fb0, fun i hi => by simpa using hc0 i hi⟩
  clear hc0 hp0 hn0 fb0
  obtain ⟨m0, x0, y0, hmc0⟩ := cutm n0 500
  have MC0 := Lib.hid hmc0
  clear hmc0
  have S0 := Lib.hid (s0.cut m0 x0)
  clear s0
  have s1 : Sl w p1 n1 c1 b1 o1 F1 := ⟨hl1, hm1, hn1, fun h => (hp1 h).1, fb1, fun i hi => by simpa using hc1 i hi⟩
  clear hc1 hp1 hn1 fb1
  obtain ⟨m1, x1, y1, hmc1⟩ := cutm n1 500
  have MC1 := Lib.hid hmc1
  clear hmc1
  have S1 := Lib.hid (s1.cut m1 x1)
  clear s1
  go_enter Tryd.func5, Tryd.ntmps5
  go_wp2_with fail
  refine (awake_w _ hT.out).mono ?_
  rintro e w1 ⟨rfl, hk⟩
  have T1 := Lib.hid (tab_kept hk (World.block_lt_of_cell? _ _ (hT.out 0 (by decide))) hT.out)
  have C0 := Lib.hid (S0.out.kept hk)
  clear S0
  have C1 := Lib.hid (S1.out.kept hk)
  clear S1
  go_wp2_with fail
  refine (cut_w p0 n0 c0 500 m0 hl0 hm0 (by omega) MC0.out _).mono ?_
  rintro e w' ⟨rfl, rfl⟩
  clear MC0
  go_wp2_with fail
  refine (cut_w p1 n1 c1 500 m1 hl1 hm1 (by omega) MC1.out _).mono ?_
  rintro e w' ⟨rfl, rfl⟩
  clear MC1
  go_wp2_with (first | (at_builtin; refine app_w rfl _ _ rfl (w0 := w1) rfl rfl H1.out K1 (C1.out.kept K1) (by omega) ?_; intro v2 w3 H2 K2) | (at_builtin; refine app_w rfl _ _ rfl (w0 := w1) rfl rfl (rw_empty w1 _ (Nat.le_refl _) F0) ((Kept.refl w1).alloc _) (C0.out.kept ((Kept.refl w1).alloc _)) (by omega) ?_; intro v1 w2 H1 K1))
  have h2 : Rw w3 w1.heap.size v2 (m0 + m1) (catF F0 m0 F1) := by
    have h := H2.out
    unfold Rw at h ⊢
    rw [Nat.zero_add] at h
    rw [← row_cat] at h ⊢
    rw [show row (catF F0 0 F0) m0 = row F0 m0 from List.map_congr_left (fun i _ => by unfold catF; rw [if_neg (by omega)]; rfl)] at h
    exact h
  clear H1 H2 K1
  obtain ⟨p2, c2, b2, rfl, o2⟩ := h2.ow (cat_bd F0 F1 m0 m1 C0.out.bd C1.out.bd)
  have T3 := (tab_kept K2 (World.block_lt_of_cell? _ _ (T1.out 0 (by decide))) T1.out)
  have TT := Lib.hid T3
  have d0 := C0.out.kept K2
  have d1 := C1.out.kept K2
  have O2 := Lib.hid o2
  have r0 := cks_range 0 F0 m0 (by omega) (by omega) d0.bd
  have r1 := cks_range 0 F1 m1 (by omega) (by omega) d1.bd
  have a0 := sum_s d0 T3
  have a1 := sum_s d1 T3
  have ec := cmb_cks F0 F1 m0 m1 d0.bd d1.bd
  have kk := Lib.hid (hk.trans K2)
  obtain ⟨A, hA⟩ : ∃ A : Nat, cks 0 F0 m0 = A := ⟨(cks 0 F0 m0).toNat, by omega⟩
  obtain ⟨B, hB⟩ : ∃ B : Nat, cks 0 F1 m1 = B := ⟨(cks 0 F1 m1).toNat, by omega⟩
  rw [hA] at a0 ec r0
  rw [hB] at a1 ec r1
  rw [Int.toNat_natCast, Int.toNat_natCast] at ec
  have cc := combine_w A B (by omega) (by omega) m1 (by omega) w3
  obtain ⟨z, hz⟩ : ∃ z, cmb A B m1 = z := ⟨_, rfl⟩
  rw [hz] at cc ec
  have EC := Lib.hid ec
  clear hz ec hA hB d0 d1 o2 h2 T3 K2
  refine a0.mono ?_
  rintro e w' ⟨rfl, rfl⟩
  go_wp2_with fail
  refine a1.mono ?_
  rintro e w' ⟨rfl, rfl⟩
  go_wp2_with fail
  refine cc.mono ?_
  rintro e w4 ⟨rfl, k4⟩
  have hs := sum_s (O2.out.sl.kept k4) (tab_kept k4 (World.block_lt_of_cell? _ _ (TT.out 0 (by decide))) TT.out)
  rw [← EC.out] at hs
  have K4 := Lib.hid (kk.out.trans k4)
  clear k4
  go_wp2_with fail
  refine hs.mono ?_
  rintro e w' ⟨rfl, rfl⟩
  clear hs a0 a1 cc
  by_cases hn0 : n < 0
  · go_wp2_with fail
    refine (combine_neg A B n n_0 hn0 _).mono ?_
    rintro e w' ⟨rfl, rfl⟩
    go_wp2_with fail
    refine (ref_combine_neg A B n n_0 hn0 _).mono ?_
    rintro e w' ⟨rfl, rfl⟩
    go_wp2_with fail
    go_ret
    exact ⟨by first | rfl | simp, K4.out⟩
  · by_cases hn1 : n ≤ 3000
    · obtain ⟨N, rfl⟩ := Int.eq_ofNat_of_zero_le (show 0 ≤ n by omega)
      have cA := combine_w A B (by omega) (by omega) N (by omega) w4
      have cB := fun W => ref_combine_w A B (by omega) (by omega) N (by omega) W
      generalize cmb A B N = y at cA cB
      go_wp2_with fail
      refine cA.mono ?_
      rintro e w5 ⟨rfl, k5⟩
      have K5 := Lib.hid (K4.out.trans k5)
      clear k5 cA
      go_wp2_with fail
      refine (cB _).mono ?_
      rintro e w' ⟨rfl, rfl⟩
      clear cB
      go_wp2_with fail
      go_ret
      exact ⟨by first | rfl | simp, K5.out⟩
    · have cA := combine_w A B (by omega) (by omega) 3000 (by omega) w4
      have cB := fun W => ref_combine_w A B (by omega) (by omega) 3000 (by omega) W
      generalize cmb A B 3000 = y at cA cB
      go_wp2_with fail
      refine cA.mono ?_
      rintro e w5 ⟨rfl, k5⟩
      have K5 := Lib.hid (K4.out.trans k5)
      clear k5 cA
      go_wp2_with fail
      refine (cB _).mono ?_
      rintro e w' ⟨rfl, rfl⟩
      clear cB
      go_wp2_with fail
      go_ret
      exact ⟨by first | rfl | simp, K5.out⟩
end Go.Proofs.YtbldklaipdbdjaaDoor
