/-
  The laws of layer 6 on sealing, flipping, damage; walks.
-/
import Derived.Test.YtbldklaipdbdjaaDoorCrcp
import Derived.Laws.CopyOwn
import Derived.WalkKit
import Derived.ProofKit
import Derived.OpenShut
import Derived.WalkLawsBesides
import Derived.WalkSpells
import Derived.Lib.Hide
import Derived.Deep.DeepCutAuto
import Derived.Deep.CutBlock
import Derived.Deep.QuietTactic
import Derived.BigQuiet
import Derived.Handy
import Derived.StillTailTactics
import Derived.IntWalk
import Derived.LoopN
import Derived.Deep.RegionHeld3
namespace Go.Proofs.YtbldklaipdbdjaaDoor
open Go.ChangeShapes Go.WideShapes Go.ChangeAt Go.RowKit
set_option linter.unusedVariables false
set_option linter.unusedSimpArgs false

theorem mk_pos (n : Nat) (hn : n ≤ 1000000) (W : World) : (Instr.makeSlice 22 (.int .i64 n) (.int .i64 n)).run Tryd.prog W = .ok (.slice (some ⟨W.heap.size, 0, none⟩) n n) (W.alloc (.cells (madeCells #[.int .u8 0] n) 5)) := mk_bytes n (by omega) W
/-- a fresh row, behind a copy of F's first n bytes -/
theorem splice_row (F : Nat → Int) (n m : Nat) (hm : n ≤ m) : (splice (List.replicate m (.int .u8 0)) 0 (row F n)).toArray = (row (fun i => if i < n then F i else 0) m).toArray := by
  congr 1
  unfold splice
  apply List.ext_getElem?
  intro i
  simp only [List.take_zero, List.nil_append, Nat.zero_add, row_length]
  by_cases h : i < n
  · rw [List.getElem?_append_left (by rw [row_length]; exact h), row_get F n i h, row_get _ m i (by omega), if_pos h]
  · rw [List.getElem?_append_right (by rw [row_length]; omega), row_length, List.getElem?_drop]
    by_cases h2 : i < m
    · rw [row_get _ m i h2, if_neg h, List.getElem?_replicate, if_pos (by omega)]
    · rw [List.getElem?_replicate, if_neg (by omega), List.getElem?_eq_none (by rw [row_length]; omega)]
theorem block_by {w : World} {g m : Nat} {G : Nat → Int} (h : w.heap[g]? = some (.cells (row G m).toArray 5 (0, 0))) : By w g 0 m G ∧ (∀ j, w.frozen? ⟨g, j, none⟩ = false) ∧ g < w.heap.size := by
  refine ⟨fun i hi => ?_, fun j => ?_, ?_⟩
  · rw [Nat.zero_add, cell_of_row w g i _ _ _ h]
    simpa using row_get G m i hi
  · simp [World.frozen?, h]
  · by_cases k : g < w.heap.size
    · exact k
    · rw [Array.getElem?_eq_none (by omega)] at h; cases h
set_option maxHeartbeats 1000000 in
theorem seal_w {p : Option Addr} {n c b o : Nat} {F : Nat → Int} {w : World} (h : Sl w p n c b o F) (ht : Tab w) (hm : n ≤ 10000) : Calls Tryd.prog 21 #[.slice p n c] w (Got w (n + 4) (catF F n (fun i => (byteOf (cks 0 F n).toNat i : Nat)))) := by
  have hbd := cks_bd F n h.bd
  obtain ⟨x, hx⟩ : ∃ x : Nat, cks 0 F n = x := ⟨(cks 0 F n).toNat, by omega⟩
  have mk : ∀ W : World, (Instr.makeSlice 22 (.int .i64 ((n : Int) + 4)) (.int .i64 ((n : Int) + 4))).run Tryd.prog W = .ok (.slice (some ⟨W.heap.size, 0, none⟩) (n + 4) (n + 4)) (W.alloc (.cells (madeCells #[.int .u8 0] (n + 4)) 5)) := fun W => by
    have := mk_pos (n + 4) (by omega) W
    rwa [show ((n + 4 : Nat) : Int) = (n : Int) + 4 from by omega] at this
  have H := Lib.hid h
  have T1 := Lib.hid ht
  have hl := h.le
  have hx2 := h.mx
  unfold maxLen at hx2
  have HX := Lib.hid hx
  rw [hx] at hbd
  clear h ht hx
  go_enter Tryd.func21, Tryd.ntmps21
  go_wp2_with (with_reducible refine wpList_copy_splice rfl _ _ 22 22 rfl 5 und_bytes (by kernel_rfl) (some ⟨w.heap.size, 0, none⟩) p (n + 4) (n + 4) n c rfl rfl w.heap.size 0 (List.replicate (n + 4) (.int .u8 0)) 5 ?c1 (row F n) ?c2 ?c3 ?c4 (row_one F n) w.heap.size w ?c5 (Nat.le_refl _) ?_)
  case c1 => rw [made1, show Array.replicate (n + 4) (Value.int .u8 0) = (List.replicate (n + 4) (Value.int .u8 0)).toArray from by simp]; exact heap_alloc_new w _
  case c2 => rw [row_length]; show n = min n (n + 4); omega
  case c3 =>
    intro h0
    rw [row_length] at h0
    refine ⟨_, H.out.at_ h0, fun j v hj => ?_⟩
    obtain ⟨h1, rfl⟩ := rowv_of hj
    rw [add_none]
    exact (H.out.kept ((Kept.refl w).alloc _)).by_ j h1
  case c4 => simp [row_length]
  case c5 => exact (Below.refl _ _).alloc (Nat.le_refl _) _
  intro w2 hw2 hb2
  have h2 := hw2.out
  rw [splice_row F n (n + 4) (by omega)] at h2
  obtain ⟨y1, y2, y3⟩ := block_by h2
  have k2 := Kept.below hb2
  have O0 : Ow w w2 (some ⟨w.heap.size, 0, none⟩) (n + 4) (n + 4) w.heap.size (fun i => if i < n then F i else 0) := ⟨Nat.le_refl _, by unfold maxLen; omega, (fun e => by cases e), fun _ => rfl, (fun i hi => by
    split
    · exact H.out.bd i (by omega)
    · omega), y1, fun _ => ⟨Nat.le_refl _, y3, y2⟩⟩
  obtain ⟨g, hg⟩ : ∃ g, w.heap.size = g := ⟨_, rfl⟩
  rw [hg] at O0
  simp only [hg]
  have O0H := Lib.hid O0
  have HG := Lib.hid hg
  have hs := sum_s (H.out.kept k2) (tab_kept k2 (World.block_lt_of_cell? _ _ (T1.out 0 (by decide))) T1.out)
  rw [HX.out] at hs
  have K2 := Lib.hid k2
  clear hw2 hb2 h2 y1 y2 y3 k2 O0 hg
  go_wp2_with fail
  refine hs.mono ?_
  rintro e w' ⟨rfl, rfl⟩
  go_wp2_with fail
  refine wp_loop_rounds 5 ?_
  have d0 := O0H.out.by_ n (by omega)
  rw [Nat.zero_add] at d0
  have fz0 := (O0H.out.own (by omega)).2.2
  rw [rounds_succ]; go_wp2_with fail
  have kk0 := O0H.out.keeps n (by omega) (.int .u8 ((x : Int) % 256)) K2.out (Nat.le_refl _)
  have oo0 := O0H.out.set n (by omega) ((x : Int) % 256) (by omega) (by omega)
  generalize w2.setCell ⟨g, n, none⟩ (.int .u8 ((x : Int) % 256)) = w3 at kk0 oo0 ⊢
  have O1H := Lib.hid oo0
  have K3 := Lib.hid kk0
  clear kk0 oo0 d0 fz0 O0H
  have d1 := O1H.out.by_ (n + 1) (by omega)
  rw [Nat.zero_add] at d1
  have fz1 := (O1H.out.own (by omega)).2.2
  rw [rounds_succ]; go_wp2_with fail
  have kk1 := O1H.out.keeps (n + 1) (by omega) (.int .u8 ((x : Int) / 256 % 256)) K3.out (Nat.le_refl _)
  have oo1 := O1H.out.set (n + 1) (by omega) ((x : Int) / 256 % 256) (by omega) (by omega)
  generalize w3.setCell ⟨g, n + 1, none⟩ (.int .u8 ((x : Int) / 256 % 256)) = w4 at kk1 oo1 ⊢
  have O2H := Lib.hid oo1
  have K4 := Lib.hid kk1
  clear kk1 oo1 d1 fz1 O1H
  have d2 := O2H.out.by_ (n + 2) (by omega)
  rw [Nat.zero_add] at d2
  have fz2 := (O2H.out.own (by omega)).2.2
  rw [rounds_succ]; go_wp2_with fail
  have kk2 := O2H.out.keeps (n + 2) (by omega) (.int .u8 ((x : Int) / 65536 % 256)) K4.out (Nat.le_refl _)
  have oo2 := O2H.out.set (n + 2) (by omega) ((x : Int) / 65536 % 256) (by omega) (by omega)
  generalize w4.setCell ⟨g, n + 2, none⟩ (.int .u8 ((x : Int) / 65536 % 256)) = w5 at kk2 oo2 ⊢
  have O3H := Lib.hid oo2
  have K5 := Lib.hid kk2
  clear kk2 oo2 d2 fz2 O2H
  have d3 := O3H.out.by_ (n + 3) (by omega)
  rw [Nat.zero_add] at d3
  have fz3 := (O3H.out.own (by omega)).2.2
  rw [rounds_succ]; go_wp2_with fail
  have kk3 := O3H.out.keeps (n + 3) (by omega) (.int .u8 ((x : Int) / 16777216)) K5.out (Nat.le_refl _)
  have oo3 := O3H.out.set (n + 3) (by omega) ((x : Int) / 16777216) (by omega) (by omega)
  generalize w5.setCell ⟨g, n + 3, none⟩ (.int .u8 ((x : Int) / 16777216)) = w6 at kk3 oo3 ⊢
  have O4H := Lib.hid oo3
  have K6 := Lib.hid kk3
  clear kk3 oo3 d3 fz3 O3H
  rw [rounds_succ]; go_wp2_with fail
  go_ret
  refine ⟨_, n + 4, g, rfl, O4H.out.congr (fun i hi => ?_), K6.out⟩
  rw [HX.out]
  by_cases h : i < n
  · rw [catF_lo F n _ i h, if_neg (by omega), if_neg (by omega), if_neg (by omega), if_neg (by omega), if_pos h]
  · have : i = n ∨ i = n + 1 ∨ i = n + 2 ∨ i = n + 3 := by omega
    rcases this with rfl | rfl | rfl | rfl
    · rw [show catF F i _ i = _ from catF_hi F i _ 0, if_neg (by omega), if_neg (by omega), if_neg (by omega), if_pos rfl]; simp [byteOf]
    · rw [catF_hi F n _ 1, if_neg (by omega), if_neg (by omega), if_pos rfl]; simp [byteOf]
    · rw [catF_hi F n _ 2, if_neg (by omega), if_pos rfl]; simp [byteOf]
    · rw [catF_hi F n _ 3, if_pos rfl]; simp [byteOf]; omega
theorem four_sl (w0 : World) (w1 : World) (x : Nat) (hw : w1 = w0.alloc (.cells #[.int .u8 (byteOf x 0 : Nat), .int .u8 (byteOf x 1 : Nat), .int .u8 (byteOf x 2 : Nat), .int .u8 (byteOf x 3 : Nat)] 5)) : Sl w1 (some ⟨w0.heap.size, 0, none⟩) 4 4 w0.heap.size 0 (fun i => (byteOf x i : Nat)) := by
  obtain ⟨f0, f1, f2, f3⟩ := four_cells w0 (byteOf x 0 : Nat) (byteOf x 1 : Nat) (byteOf x 2 : Nat) (byteOf x 3 : Nat) _ rfl
  rw [← hw] at f0 f1 f2 f3
  refine ⟨Nat.le_refl _, by decide, (fun e => by cases e), fun _ => rfl, (fun i hi => by have := byteOf_lt x i; omega), fun i hi => ?_⟩
  have : i = 0 ∨ i = 1 ∨ i = 2 ∨ i = 3 := by omega
  rcases this with rfl | rfl | rfl | rfl
  · exact f0
  · exact f1
  · exact f2
  · exact f3
set_option maxHeartbeats 1000000 in
theorem ref_seal_w {p : Option Addr} {n c b o : Nat} {F : Nat → Int} {w : World} (h : Sl w p n c b o F) (hm : n ≤ 10000) : Calls Tryd.prog 22 #[.slice p n c] w (Got w (n + 4) (catF F n (fun i => (byteOf (cks 0 F n).toNat i : Nat)))) := by
  have hbd := cks_bd F n h.bd
  obtain ⟨x, hx⟩ : ∃ x : Nat, cks 0 F n = x := ⟨(cks 0 F n).toNat, by omega⟩
  have H := Lib.hid h
  have HX := Lib.hid hx
  rw [hx] at hbd
  have xl : x < 4294967296 := by omega
  clear h hx
  have k0 := (Kept.refl w).alloc (.cells #[] 5)
  have K0 := Lib.hid k0
  have S0 := Lib.hid (H.out.kept k0)
  clear k0
  go_enter Tryd.func22, Tryd.ntmps22
  go_wp2_with (at_builtin; refine app_w rfl _ _ rfl (w0 := w) rfl rfl (rw_empty w _ (Nat.le_refl _) F) K0.out S0.out (by omega) ?_; intro v1 w1 H1 K1)
  have hs := ref_sum_s (H.out.kept K1)
  rw [HX.out] at hs
  refine hs.mono ?_
  rintro e w' ⟨rfl, rfl⟩
  go_wp2_with fail
  refine (four_w x xl w1).mono ?_
  rintro e w2 ⟨rfl, hw2⟩
  have h1 := rw_first H1.out
  have k12 : Kept w1 w2 := by rw [hw2]; exact (Kept.refl _).alloc _
  have h2 : Hid (Rw w2 w.heap.size v1 n F) := Lib.hid (by rw [hw2]; exact World.ownsRow.alloc h1 _)
  have s2 := Lib.hid (four_sl w1 w2 x hw2)
  have K2 := Lib.hid (K1.trans k12)
  clear hw2 h1 H1 K1 k12 hs
  go_wp2_with (at_builtin; refine app_w rfl _ _ rfl (w0 := w) rfl rfl h2.out K2.out s2.out (by omega) ?_; intro v3 w3 H3 K3)
  go_ret
  have hb3 : ∀ i, i < n + 4 → 0 ≤ catF F n (fun i => ((byteOf x i : Nat) : Int)) i ∧ catF F n (fun i => ((byteOf x i : Nat) : Int)) i ≤ 255 := cat_bd F _ n 4 H.out.bd (fun i hi => by have := byteOf_lt x i; omega)
  obtain ⟨p3, c3, b3, rfl, o3⟩ := Rw.ow H3.out hb3
  refine ⟨p3, c3, b3, rfl, o3.congr (fun i hi => ?_), K3⟩
  rw [HX.out]; simp
theorem seal_bd {p : Option Addr} {n c b o : Nat} {F : Nat → Int} {w : World} (h : Sl w p n c b o F) : ∀ i, i < n + 4 → 0 ≤ (catF F n (fun i => (byteOf (cks 0 F n).toNat i : Nat))) i ∧ (catF F n (fun i => (byteOf (cks 0 F n).toNat i : Nat))) i ≤ 255 := cat_bd F _ n 4 h.bd (fun i hi => by have := byteOf_lt (cks 0 F n).toNat i; omega)
theorem seal_cks (F : Nat → Int) (n : Nat) (hF : ∀ i, i < n → 0 ≤ F i ∧ F i ≤ 255) : cks 0 (catF F n (fun i => (byteOf (cks 0 F n).toNat i : Nat))) (n + 4) = 558161692 := by
  have e : cks 0 (catF F n (fun i => (byteOf (cks 0 F n).toNat i : Nat))) n = cks 0 F n := cks_congr _ _ _ _ (fun i hi => catF_lo F n _ i hi)
  refine sealed_cks _ n (fun i hi => by rw [catF_lo F n _ i hi]; exact hF i hi) (fun i hi => ?_)
  rw [e, catF_hi]; simp
set_option maxHeartbeats 4000000 in
set_option maxRecDepth 100000 in
theorem law_seals (p0 : Option Addr) (n0 c0 b0 o0 : Nat) (F0 : Nat → Int)  (hl0 : n0 ≤ c0) (hm0 : c0 ≤ maxLen) (fb0 : ∀ i, i < n0 → 0 ≤ F0 i ∧ F0 i ≤ 255)  (w : World) (hT : Hid (Tab w)) (hp0 : 0 < n0 → p0 = some ⟨b0, o0, none⟩ ∧ b0 < w.heap.size) (hn0 : p0 = none → c0 = 0) (hc0 : ∀ i, i < n0 → w.cell? ⟨b0, o0 + (i * 1 + 0), none⟩ = some (.int .u8 (F0 i))) : Calls Tryd.prog 7 #[.slice p0 n0 c0] w fun en w' => en = .returned (.bool true) ∧ Kept w w' := by
  have s0 : Sl w p0 n0 c0 b0 o0 F0 := ⟨hl0, hm0, hn0, fun h => (hp0 h).1, fb0, fun i hi => by simpa using hc0 i hi⟩
  clear hc0 hp0 hn0 fb0
  obtain ⟨m0, x0, y0, hmc0⟩ := cutm n0 1000
  have MC0 := Lib.hid hmc0
  clear hmc0
  have S0 := Lib.hid (s0.cut m0 x0)
  clear s0
  go_enter Tryd.func7, Tryd.ntmps7
  go_wp2_with fail
  refine (awake_w _ hT.out).mono ?_
  rintro e w1 ⟨rfl, hk⟩
  have T1 := Lib.hid (tab_kept hk (World.block_lt_of_cell? _ _ (hT.out 0 (by decide))) hT.out)
  have C0 := Lib.hid (S0.out.kept hk)
  clear S0
  go_wp2_with fail
  refine (cut_w p0 n0 c0 1000 m0 hl0 hm0 (by omega) MC0.out _).mono ?_
  rintro e w' ⟨rfl, rfl⟩
  clear MC0
  have c0 := conv_w C0.out
  obtain ⟨was, hwas⟩ : ∃ was, bs F0 m0 = was := ⟨_, rfl⟩
  have WAS := Lib.hid hwas
  rw [hwas] at c0
  clear hwas
  go_wp2_with fail
  refine (seal_w C0.out T1.out (by omega)).mono ?_
  rintro e w2 ⟨p2, c2, b2, rfl, o2, k2⟩
  clear c0
  have O2 := Lib.hid o2
  have T2 := Lib.hid (tab_kept k2 (World.block_lt_of_cell? _ _ (T1.out 0 (by decide))) T1.out)
  have K2 := Lib.hid k2
  have kd : Kept w2 w2.drew := (Kept.refl w2).drew
  have hsum := sum_s (o2.sl.kept kd) (tab_kept kd (World.block_lt_of_cell? _ _ (T2.out 0 (by decide))) T2.out)
  rw [seal_cks F0 m0 C0.out.bd] at hsum
  have hseal := ref_seal_w (C0.out.kept (k2.trans kd)) (by omega)
  obtain ⟨sx, hsx⟩ : ∃ sx, bs (catF F0 m0 (fun i => (byteOf (cks 0 F0 m0).toNat i : Nat))) (m0 + 4) = sx := ⟨_, rfl⟩
  have cs : ∀ W, Kept w2 W → Sem.run Tryd.prog (convert 22 9 (.slice p2 (m0 + 4) c2)) W = .ok (.string (sx)) W := fun W hk => by rw [← hsx]; exact conv_w (o2.kept hk).sl
  have cs1 := cs w2.drew kd
  have CS := Lib.hid cs
  have SX := Lib.hid hsx
  have KD := Lib.hid kd
  clear o2 k2 cs hsx kd
  go_wp2_with fail
  have hw1 : IntKind.i64.wrap ((m0 : Int) + 4) = (m0 : Int) + 4 := IntWalk.i64_in _ (by omega)
  have hw2 : ((m0 : Int) + 4 != (m0 : Int) + 4) = false := by simp
  have hw3 : (((m0 + 4 : Nat) : Int) != (m0 : Int) + 4) = false := by simp
  go_cut [34] (fun c wx => c = .bool false ∧ Hid (Kept w2 wx))
  case first =>
    first | (go_region_with (first | (go_at_call 15; (with_reducible refine hsum.mono ?_); rintro e w' ⟨rfl, rfl⟩) | (go_at_call 22; (with_reducible refine hseal.mono ?_); rintro e w3 ⟨p3, c3, b3, rfl, o3, k3⟩; have cs2 := CS.out w3 (KD.out.trans k3); have cs3 := conv_w o3.sl; rw [SX.out] at cs3; have O3 := Lib.hid o3; have K3 := Lib.hid ((K2.out.trans KD.out).trans k3); have K23 := Lib.hid (KD.out.trans k3); clear o3 k3))) | fail
    all_goals (go_wp2_with fail; go_meet; exact ⟨rfl, K23⟩)
  case rest =>
    obtain ⟨rfl, hkc⟩ := hcut
    have TC := Lib.hid (tab_kept hkc.out (World.block_lt_of_cell? _ _ (T2.out 0 (by decide))) T2.out)
    have OC := Lib.hid (O2.out.kept hkc.out)
    have KC_ := Lib.hid (K2.out.trans hkc.out)
    have HKC := hkc
    clear hkc cs1 hsum hseal hw1 hw2 hw3 KD
    go_wp2_with fail
    refine (open_ok OC.out.sl TC.out (by omega) (seal_cks F0 m0 C0.out.bd)).mono ?_
    rintro e w5 ⟨p5, c5, b5, rfl, o5, k5⟩
    have o5' := o5.congr (G := F0) (fun i hi => (catF_lo F0 m0 _ i hi).symm)
    have cq := conv_w o5'.sl
    rw [WAS.out] at cq
    have O5 := Lib.hid o5'
    have K5 := Lib.hid k5
    have l5 := o5'.le
    have x5 := o5'.mx
    unfold maxLen at x5
    clear o5 k5 o5'
    go_wp2_with fail
    clear cq
    go_loopw [50] (fun i wr => ∃ k : Nat, k ≤ m0 ∧ i = .int .i64 k ∧ Hid (∃ G, Ow wc wr p5 m0 c5 b5 G ∧ Kept wc wr)) (fun i _ => m0 - (intOf i).toNat)
    case atStart => exact ⟨0, Nat.zero_le _, rfl, Lib.hid ⟨F0, O5.out, K5.out⟩⟩
    case round =>
      obtain ⟨k, hkm, rfl, hR⟩ := hrel
      obtain ⟨G, oG, kG⟩ := hR.out
      clear hR
      by_cases hlt : k < m0
      · have d0 := oG.by_ k hlt
        rw [Nat.zero_add] at d0
        have fz := (oG.own (by omega)).2.2
        obtain ⟨g0, g1⟩ := oG.bd k hlt
        obtain rfl := oG.at_ (by omega)
        obtain ⟨y, hy⟩ : ∃ y, IntKind.u8.wrap (G k + 1) = y := ⟨_, rfl⟩
        have y01 : 0 ≤ y ∧ y ≤ 255 := by rw [← hy, IntKind.wrap_u8']; omega
        have HN := Lib.hid (And.intro (oG.set k hlt y y01.1 y01.2) (oG.keeps k hlt (.int .u8 y) kG (Nat.le_refl _)))
        generalize G k = v at d0 g0 g1 hy
        clear oG kG
        go_wp2_with fail
        go_roundw
        case rel => exact ⟨k + 1, by omega, by go_num, Lib.hid ⟨_, HN.out.1, HN.out.2⟩⟩
        case measure => simp [intOf]; omega
      · obtain rfl : k = m0 := by omega
        have cA := conv_w ((C0.out.kept KC_.out).kept kG)
        rw [WAS.out] at cA
        have cB := conv_w ((OC.out.kept kG).sl.cut k (by omega))
        rw [bs_congr (G := F0) (fun i hi => catF_lo F0 k _ i hi), WAS.out] at cB
        have kk := Lib.hid ((hk.trans KC_.out).trans kG)
        have lo := OC.out.le
        have mo := OC.out.mx
        unfold maxLen at mo
        clear oG kG
        go_wp2_with fail
        go_ret
        exact ⟨by first | rfl | simp, kk.out⟩
end Go.Proofs.YtbldklaipdbdjaaDoor
