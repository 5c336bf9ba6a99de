/-
  The laws of layer 6 on strings that are put together, sealed, opened; walks.
-/
import Derived.Test.YtbldklaipdbdjaaDoorCrcl
import Derived.Test.YtbldklaipdbdjaaDoorCrco
import Derived.Laws.CopyOwn
import Derived.WalkKit
import Derived.ProofKit
import Derived.OpenShut
import Derived.WalkLawsBesides
import Derived.WalkSpells
import Derived.Lib.Hide
import Derived.Deep.DeepCutAuto
import Derived.Deep.CutBlock
import Derived.Deep.QuietTactic
import Derived.BigQuiet
import Derived.Handy
import Derived.StillTailTactics
import Derived.IntWalk
import Derived.LoopN
import Derived.Deep.RegionHeld3
namespace Go.Proofs.YtbldklaipdbdjaaDoor
open Go.ChangeShapes Go.WideShapes Go.ChangeAt Go.RowKit
set_option linter.unusedVariables false
set_option linter.unusedSimpArgs false

theorem sum_s {p : Option Addr} {n c b o : Nat} {F : Nat → Int} {w : World} (h : Sl w p n c b o F) (ht : Tab w) : Calls Tryd.prog 15 #[.slice p n c] w fun en w' => en = .returned (.int .u32 (cks 0 F n)) ∧ w = w' :=
  sum_w p n c b o F (Nat.le_trans h.le h.mx) h.bd w h.at_ h.by_ ht
theorem upd_s (s : Int) (s0 : 0 ≤ s) (s1 : s ≤ 4294967295) {p : Option Addr} {n c b o : Nat} {F : Nat → Int} {w : World} (h : Sl w p n c b o F) (ht : Tab w) : Calls Tryd.prog 17 #[.int .u32 s, .slice p n c] w fun en w' => en = .returned (.int .u32 (cks s F n)) ∧ w = w' :=
  upd_w s s0 s1 p n c b o F (Nat.le_trans h.le h.mx) h.bd w h.at_ h.by_ ht
theorem ref_sum_s {p : Option Addr} {n c b o : Nat} {F : Nat → Int} {w : World} (h : Sl w p n c b o F) : Calls Tryd.prog 16 #[.slice p n c] w fun en w' => en = .returned (.int .u32 (cks 0 F n)) ∧ w = w' :=
  ref_sum_w p n c b o F (Nat.le_trans h.le h.mx) h.bd w h.at_ h.by_
theorem ref_upd_s (s : Int) (s0 : 0 ≤ s) (s1 : s ≤ 4294967295) {p : Option Addr} {n c b o : Nat} {F : Nat → Int} {w : World} (h : Sl w p n c b o F) : Calls Tryd.prog 18 #[.int .u32 s, .slice p n c] w fun en w' => en = .returned (.int .u32 (cks s F n)) ∧ w = w' :=
  ref_upd_w s s0 s1 p n c b o F (Nat.le_trans h.le h.mx) h.bd w h.at_ h.by_
theorem sl_none (w : World) (F : Nat → Int) : Sl w none 0 0 0 0 F := ⟨Nat.le_refl _, Nat.zero_le _, fun _ => rfl, fun h => by omega, fun i hi => by omega, fun i hi => by omega⟩
theorem cks_range (s : Int) (F : Nat → Int) (n : Nat) (s0 : 0 ≤ s) (s1 : s ≤ 4294967295) (hF : ∀ i, i < n → 0 ≤ F i ∧ F i ≤ 255) : 0 ≤ cks s F n ∧ cks s F n ≤ 4294967295 := by
  have := rg_lt F (4294967295 - s.toNat) n (by omega) hF n (by omega)
  unfold cks; omega
theorem cks_nil (s : Int) (F : Nat → Int) (s0 : 0 ≤ s) (s1 : s ≤ 4294967295) : cks s F 0 = s := by
  show (4294967295 : Int) - ((4294967295 - s.toNat : Nat) : Int) = s
  omega
theorem cks_congr (s : Int) (F G : Nat → Int) (n : Nat) (h : ∀ i, i < n → F i = G i) : cks s F n = cks s G n := by unfold cks; rw [rg_congr h]
theorem cks_cat (F G : Nat → Int) (n m : Nat) (hF : ∀ i, i < n → 0 ≤ F i ∧ F i ≤ 255) : cks (cks 0 F n) G m = cks 0 (catF F n G) (n + m) := by
  have e1 : cks 0 F n = cks 0 (catF F n G) n := cks_congr _ _ _ _ (fun i hi => (catF_lo F n G i hi).symm)
  have e2 : ∀ s, cks s G m = cks s (fun i => catF F n G (n + i)) m := fun s => cks_congr _ _ _ _ (fun i _ => (catF_hi F n G i).symm)
  rw [e2, e1]
  exact cks_append (catF F n G) 0 n m (fun i hi => by rw [catF_lo F n G i hi]; exact hF i hi) (by omega) (by omega)
theorem cat_bd (F G : Nat → Int) (n m : Nat) (hF : ∀ i, i < n → 0 ≤ F i ∧ F i ≤ 255) (hG : ∀ i, i < m → 0 ≤ G i ∧ G i ≤ 255) : ∀ i, i < n + m → 0 ≤ catF F n G i ∧ catF F n G i ≤ 255 := fun i hi => by
  unfold catF; split
  · exact hF i (by omega)
  · exact hG _ (by omega)
set_option maxHeartbeats 4000000 in
set_option maxRecDepth 100000 in
theorem law_updates (p0 : Option Addr) (n0 c0 b0 o0 : Nat) (F0 : Nat → Int) (p1 : Option Addr) (n1 c1 b1 o1 : Nat) (F1 : Nat → Int) (s : Int) (hl0 : n0 ≤ c0) (hm0 : c0 ≤ maxLen) (fb0 : ∀ i, i < n0 → 0 ≤ F0 i ∧ F0 i ≤ 255) (hl1 : n1 ≤ c1) (hm1 : c1 ≤ maxLen) (fb1 : ∀ i, i < n1 → 0 ≤ F1 i ∧ F1 i ≤ 255) (s0 : 0 ≤ s) (s1 : s ≤ 4294967295) (w : World) (hT : Hid (Tab w)) (hp0 : 0 < n0 → p0 = some ⟨b0, o0, none⟩ ∧ b0 < w.heap.size) (hn0 : p0 = none → c0 = 0) (hc0 : ∀ i, i < n0 → w.cell? ⟨b0, o0 + (i * 1 + 0), none⟩ = some (.int .u8 (F0 i))) (hp1 : 0 < n1 → p1 = some ⟨b1, o1, none⟩ ∧ b1 < w.heap.size) (hn1 : p1 = none → c1 = 0) (hc1 : ∀ i, i < n1 → w.cell? ⟨b1, o1 + (i * 1 + 0), none⟩ = some (.int .u8 (F1 i))) : Calls Tryd.prog 4 #[.slice p0 n0 c0, .slice p1 n1 c1, .int .u32 s] w fun en w' => en = .returned (.bool true) ∧ Kept w w' := by
  have s0 : Sl w p0 n0 c0 b0 o0 F0 := ⟨hl0, hm0, hn0, fun h => (hp0 h).1, fb0, fun i hi => by simpa using hc0 i hi⟩
  clear hc0 hp0 hn0 fb0
  obtain ⟨m0, x0, y0, hmc0⟩ := cutm n0 500
  have MC0 := Lib.hid hmc0
  clear hmc0
  have S0 := Lib.hid (s0.cut m0 x0)
  clear s0
  have s1 : Sl w p1 n1 c1 b1 o1 F1 := ⟨hl1, hm1, hn1, fun h => (hp1 h).1, fb1, fun i hi => by simpa using hc1 i hi⟩
  clear hc1 hp1 hn1 fb1
  obtain ⟨m1, x1, y1, hmc1⟩ := cutm n1 500
  have MC1 := Lib.hid hmc1
  clear hmc1
  have S1 := Lib.hid (s1.cut m1 x1)
  clear s1
  go_enter Tryd.func4, Tryd.ntmps4
  go_wp2_with fail
  refine (awake_w _ hT.out).mono ?_
  rintro e w1 ⟨rfl, hk⟩
  have T1 := Lib.hid (tab_kept hk (World.block_lt_of_cell? _ _ (hT.out 0 (by decide))) hT.out)
  have C0 := Lib.hid (S0.out.kept hk)
  clear S0
  have C1 := Lib.hid (S1.out.kept hk)
  clear S1
  go_wp2_with fail
  refine (cut_w p0 n0 c0 500 m0 hl0 hm0 (by omega) MC0.out _).mono ?_
  rintro e w' ⟨rfl, rfl⟩
  clear MC0
  go_wp2_with fail
  refine (cut_w p1 n1 c1 500 m1 hl1 hm1 (by omega) MC1.out _).mono ?_
  rintro e w' ⟨rfl, rfl⟩
  clear MC1
  go_wp2_with (first | (at_builtin; refine app_w rfl _ _ rfl (w0 := w1) rfl rfl H1.out K1 (C1.out.kept K1) (by omega) ?_; intro v2 w3 H2 K2) | (at_builtin; refine app_w rfl _ _ rfl (w0 := w1) rfl rfl (rw_empty w1 _ (Nat.le_refl _) F0) ((Kept.refl w1).alloc _) (C0.out.kept ((Kept.refl w1).alloc _)) (by omega) ?_; intro v1 w2 H1 K1))
  have h2 : Rw w3 w1.heap.size v2 (m0 + m1) (catF F0 m0 F1) := by
    have h := H2.out
    unfold Rw at h ⊢
    rw [Nat.zero_add] at h
    rw [← row_cat] at h ⊢
    rw [show row (catF F0 0 F0) m0 = row F0 m0 from List.map_congr_left (fun i _ => by unfold catF; rw [if_neg (by omega)]; rfl)] at h
    exact h
  clear H1 H2 K1
  obtain ⟨p2, c2, b2, rfl, o2⟩ := h2.ow (cat_bd F0 F1 m0 m1 C0.out.bd C1.out.bd)
  have T3 := (tab_kept K2 (World.block_lt_of_cell? _ _ (T1.out 0 (by decide))) T1.out)
  have d0 := C0.out.kept K2
  have d1 := C1.out.kept K2
  have d2 := o2.sl
  have r0 := cks_range 0 F0 m0 (by omega) (by omega) d0.bd
  have a0 := sum_s d0 T3
  have a1 := upd_s (cks 0 F0 m0) r0.1 r0.2 d1 T3
  have a2 := sum_s d2 T3
  have a3 := upd_s s s0 s1 d1 T3
  have a4 := ref_upd_s s s0 s1 d1
  have a5 := upd_s s s0 s1 (sl_none w3 F1) T3
  rw [cks_nil s F1 s0 s1] at a5
  rw [cks_cat F0 F1 m0 m1 d0.bd] at a1
  generalize cks 0 F0 m0 = y0 at a0 a1
  generalize cks 0 (catF F0 m0 F1) (m0 + m1) = y1 at a1 a2
  generalize cks s F1 m1 = y2 at a3 a4
  have kk := Lib.hid (hk.trans K2)
  clear d0 d1 d2 o2 h2 T3 r0 K2
  refine a0.mono ?_
  rintro e w' ⟨rfl, rfl⟩
  go_wp2_with fail
  refine a1.mono ?_
  rintro e w' ⟨rfl, rfl⟩
  go_wp2_with fail
  refine a2.mono ?_
  rintro e w' ⟨rfl, rfl⟩
  go_wp2_with fail
  refine a3.mono ?_
  rintro e w' ⟨rfl, rfl⟩
  go_wp2_with fail
  refine a4.mono ?_
  rintro e w' ⟨rfl, rfl⟩
  go_wp2_with fail
  refine a5.mono ?_
  rintro e w' ⟨rfl, rfl⟩
  go_wp2_with fail
  go_ret
  exact ⟨by first | rfl | simp, kk.out⟩
theorem rw_first {w : World} {base : Nat} {v : Value} {n : Nat} {F G : Nat → Int} (h : Rw w base v (0 + n) (catF F 0 G)) : Rw w base v n G := by
  unfold Rw at h ⊢
  rw [Nat.zero_add] at h
  rwa [show row (catF F 0 G) n = row G n from List.map_congr_left (fun i _ => by unfold catF; rw [if_neg (by omega)]; rfl)] at h
/-- own bytes come back -/
def Got (w : World) (n : Nat) (F : Nat → Int) (en : Ending) (w' : World) : Prop := ∃ p c b, en = .returned (.slice p n c) ∧ Ow w w' p n c b F ∧ Kept w w'
/-- .. with an error's number -/
def GotE (w : World) (n : Nat) (F : Nat → Int) (er : Int) (en : Ending) (w' : World) : Prop := ∃ p c b, en = .returned (.tuple #[.slice p n c, .int .i64 er]) ∧ Ow w w' p n c b F ∧ Kept w w'
theorem ow_none (W w : World) (F : Nat → Int) : Ow W w none 0 0 0 F := ⟨Nat.le_refl _, Nat.zero_le _, fun _ => rfl, fun h => by omega, fun i hi => by omega, fun i hi => by omega, fun h => by omega⟩
theorem clone0a_w (c : Nat) (a : Addr) (w : World) :
    Calls Tryd.prog 38 #[.slice (some a) 0 c] w fun en w' => en = .returned (.slice (some ⟨w.heap.size, 0, none⟩) 0 0) ∧ Kept w w' := by
  have he : ∀ w, Sem.run Tryd.prog (binOp BinOp.eql 22 (.slice (some a) 0 c) (.slice none 0 0)) w = .ok (.bool false) w := fun _ => by kernel_rfl
  go_enter Tryd.func38, Tryd.ntmps38
  go_wp2
  all_goals (go_ret; exact ⟨rfl, (by repeat (first | with_reducible exact Kept.refl _ | with_reducible assumption | with_reducible refine Kept.setCell ?_ (by first | (simp; done) | (simp; omega) | omega) _ | with_reducible refine Kept.alloc ?_ _ | with_reducible refine Kept.drewN ?_ _ | with_reducible refine Kept.drew ?_ | with_reducible refine Kept.trans ?_ (by with_reducible assumption) | with_reducible refine Kept.dr ?_ (by with_reducible assumption)))⟩)
theorem clone_s {p : Option Addr} {n c b o : Nat} {F : Nat → Int} {w : World} (h : Sl w p n c b o F) (hm : n ≤ 1000000) : Calls Tryd.prog 38 #[.slice p n c] w (Got w n F) := by
  by_cases hn : 0 < n
  · rw [h.at_ hn]
    refine (clone_w n c b o F hn (by omega) w (World.block_lt_of_cell? _ _ (h.by_ 0 hn)) h.by_).mono ?_
    rintro e w' ⟨g, cap, rfl, h1, h2, h3, h4, h5, h6, h7⟩
    exact ⟨_, cap, g, rfl, ⟨h1, h2, (fun e => by cases e), (fun _ => rfl), h.bd, h6, fun _ => ⟨h4, h5, h7⟩⟩, h3⟩
  · obtain rfl : n = 0 := by omega
    cases hp : p with
    | none =>
      have := h.nil hp
      subst this
      refine (clonen_w w).mono ?_
      rintro e w' ⟨rfl, rfl⟩
      exact ⟨none, 0, 0, rfl, ow_none _ _ _, Kept.refl _⟩
    | some a =>
      refine (clone0a_w c a w).mono ?_
      rintro e w' ⟨rfl, hk⟩
      exact ⟨_, 0, 0, rfl, ⟨Nat.le_refl _, Nat.zero_le _, (fun e => by cases e), (fun h => by omega), (fun i hi => by omega), (fun i hi => by omega), fun h => by omega⟩, hk⟩
theorem open_form {p : Option Addr} {n c b o : Nat} {F : Nat → Int} {w : World} (h : Sl w p n c b o F) (hn : n < 4) : Calls Tryd.prog 23 #[.slice p n c] w fun en w' => en = .returned (.tuple #[.slice none 0 0, .int .i64 4]) ∧ w = w' := by
  clear h
  go_enter Tryd.func23, Tryd.ntmps23
  go_wp2
  all_goals (go_ret2; exact ⟨rfl, rfl⟩)
theorem open_sum {p : Option Addr} {n c b o : Nat} {F : Nat → Int} {w : World} (h : Sl w p n c b o F) (ht : Tab w) (hn : 4 ≤ n) (hm : n ≤ 1000000) (hr : cks 0 F n ≠ 558161692) : Calls Tryd.prog 23 #[.slice p n c] w fun en w' => en = .returned (.tuple #[.slice none 0 0, .int .i64 12]) ∧ w = w' := by
  have hs := sum_s h ht
  have hne : (cks 0 F n != 558161692) = true := by simpa using hr
  generalize cks 0 F n = y at hs hne
  clear h ht hr
  go_enter Tryd.func23, Tryd.ntmps23
  go_wp2_with (first | (go_at_call 15; refine hs.mono ?_; rintro e w' ⟨rfl, rfl⟩))
  all_goals (go_ret2; exact ⟨rfl, rfl⟩)
theorem open_ok {p : Option Addr} {n c b o : Nat} {F : Nat → Int} {w : World} (h : Sl w p (n + 4) c b o F) (ht : Tab w) (hm : n ≤ 1000000) (hr : cks 0 F (n + 4) = 558161692) : Calls Tryd.prog 23 #[.slice p (n + 4) c] w (GotE w n F 0) := by
  have hs := sum_s h ht
  rw [hr] at hs
  have hc := clone_s (h.cut n (by omega)) (by omega)
  have hl := h.le
  have hx := h.mx
  unfold maxLen at hx
  clear h ht hr
  go_enter Tryd.func23, Tryd.ntmps23
  go_wp2_with fail
  refine hs.mono ?_
  rintro e w' ⟨rfl, rfl⟩
  go_wp2_with fail
  refine hc.mono ?_
  rintro e w' ⟨p', c', b', rfl, ho, hk⟩
  go_wp2_with fail
  go_ret2
  exact ⟨p', c', b', rfl, ho, hk⟩
theorem wrap_u8 (x : Nat) : IntKind.u8.wrap (x : Int) = ((x % 256 : Nat) : Int) := by rw [IntKind.wrap_u8']; omega
theorem four_w (x : Nat) (hx : x < 4294967296) (w : World) : Calls Tryd.prog 37 #[.int .u32 x] w fun en w' => en = .returned (.slice (some ⟨w.heap.size, 0, none⟩) 4 4) ∧ w' = w.alloc (.cells #[.int .u8 (byteOf x 0 : Nat), .int .u8 (byteOf x 1 : Nat), .int .u8 (byteOf x 2 : Nat), .int .u8 (byteOf x 3 : Nat)] 5) := by
  have b0 : ((byteOf x 0 : Nat) : Int) = (x : Int) % 256 := by simp [byteOf]
  have b1 : ((byteOf x 1 : Nat) : Int) = (x : Int) / 256 % 256 := by simp [byteOf]
  have b2 : ((byteOf x 2 : Nat) : Int) = (x : Int) / 65536 % 256 := by simp [byteOf]
  have b3 : ((byteOf x 3 : Nat) : Int) = (x : Int) / 16777216 := by simp [byteOf]; omega
  rw [b0, b1, b2, b3]
  clear b0 b1 b2 b3
  go_enter Tryd.func37, Tryd.ntmps37
  go_wp2
  go_ret
  exact ⟨rfl, rfl⟩
theorem ref_open_form {p : Option Addr} {n c b o : Nat} {F : Nat → Int} {w : World} (h : Sl w p n c b o F) (hn : n < 4) : Calls Tryd.prog 24 #[.slice p n c] w fun en w' => en = .returned (.tuple #[.slice none 0 0, .int .i64 4]) ∧ w = w' := by
  clear h
  go_enter Tryd.func24, Tryd.ntmps24
  go_wp2
  all_goals (go_ret2; exact ⟨rfl, rfl⟩)
theorem four_cells (w : World) (x0 x1 x2 x3 : Int) (o' : Obj) (ho : o' = .cells #[.int .u8 x0, .int .u8 x1, .int .u8 x2, .int .u8 x3] 5) : (w.alloc o').cell? ⟨w.heap.size, 0, none⟩ = some (.int .u8 x0) ∧ (w.alloc o').cell? ⟨w.heap.size, 1, none⟩ = some (.int .u8 x1) ∧ (w.alloc o').cell? ⟨w.heap.size, 2, none⟩ = some (.int .u8 x2) ∧ (w.alloc o').cell? ⟨w.heap.size, 3, none⟩ = some (.int .u8 x3) := by
  subst ho
  refine ⟨?_, ?_, ?_, ?_⟩ <;> (rw [World.cell?_alloc_mark]; rfl)
theorem ref_open_ok {p : Option Addr} {n c b o : Nat} {F : Nat → Int} {w : World} (h : Sl w p (n + 4) c b o F) (hm : n ≤ 1000000) (x : Nat) (hx : cks 0 F n = x) (hx' : x < 4294967296) (hb : ∀ i, i < 4 → F (n + i) = (byteOf x i : Nat)) : Calls Tryd.prog 24 #[.slice p (n + 4) c] w (GotE w n F 0) := by
  have hp := h.at_ (by omega)
  subst hp
  have hs := ref_sum_s (h.cut n (by omega))
  rw [hx] at hs
  have hl := h.le
  have hx2 := h.mx
  unfold maxLen at hx2
  obtain ⟨y0, hy0⟩ : ∃ y, F (n + 0) = y := ⟨_, rfl⟩
  obtain ⟨z0, hz0⟩ : ∃ z : Int, ((byteOf x 0 : Nat) : Int) = z := ⟨_, rfl⟩
  obtain ⟨y1, hy1⟩ : ∃ y, F (n + 1) = y := ⟨_, rfl⟩
  obtain ⟨z1, hz1⟩ : ∃ z : Int, ((byteOf x 1 : Nat) : Int) = z := ⟨_, rfl⟩
  obtain ⟨y2, hy2⟩ : ∃ y, F (n + 2) = y := ⟨_, rfl⟩
  obtain ⟨z2, hz2⟩ : ∃ z : Int, ((byteOf x 2 : Nat) : Int) = z := ⟨_, rfl⟩
  obtain ⟨y3, hy3⟩ : ∃ y, F (n + 3) = y := ⟨_, rfl⟩
  obtain ⟨z3, hz3⟩ : ∃ z : Int, ((byteOf x 3 : Nat) : Int) = z := ⟨_, rfl⟩
  have e0 : y0 = z0 := by rw [← hy0, ← hz0]; exact hb 0 (by omega)
  have e1 : y1 = z1 := by rw [← hy1, ← hz1]; exact hb 1 (by omega)
  have e2 : y2 = z2 := by rw [← hy2, ← hz2]; exact hb 2 (by omega)
  have e3 : y3 = z3 := by rw [← hy3, ← hz3]; exact hb 3 (by omega)
  clear hb
  obtain rfl : z0 = y0 := e0.symm
  obtain rfl : z1 = y1 := e1.symm
  obtain rfl : z2 = y2 := e2.symm
  obtain rfl : z3 = y3 := e3.symm
  have H := Lib.hid h
  have HZ := Lib.hid (And.intro hz0 (And.intro hz1 (And.intro hz2 hz3)))
  have HY := Lib.hid (And.intro hy0 (And.intro hy1 (And.intro hy2 hy3)))
  clear h hz0 hz1 hz2 hz3 hy0 hy1 hy2 hy3 hx
  go_enter Tryd.func24, Tryd.ntmps24
  go_wp2_with fail
  refine hs.mono ?_
  rintro e w' ⟨rfl, rfl⟩
  go_wp2_with fail
  refine (four_w x hx' w).mono ?_
  rintro e w1 ⟨rfl, hw1⟩
  obtain ⟨z0', z1', z2', z3'⟩ := HZ.out
  rw [z0', z1', z2', z3'] at hw1
  have hk1 : Kept w w1 := by rw [hw1]; exact (Kept.refl w).alloc _
  obtain ⟨f0, f1, f2, f3⟩ := four_cells w z0 z1 z2 z3 _ rfl
  rw [← hw1] at f0 f1 f2 f3
  have HW := Lib.hid hw1
  obtain ⟨hy0, hy1, hy2, hy3⟩ := HY.out
  have h := H.out
  have d0 : w1.cell? ⟨b, o + n, none⟩ = some (.int .u8 z0) := ((h.kept hk1).by_ (n + 0) (by omega)).trans (by rw [hy0])
  have d1 : w1.cell? ⟨b, o + (n + 1), none⟩ = some (.int .u8 z1) := ((h.kept hk1).by_ (n + 1) (by omega)).trans (by rw [hy1])
  have d2 : w1.cell? ⟨b, o + (n + 2), none⟩ = some (.int .u8 z2) := ((h.kept hk1).by_ (n + 2) (by omega)).trans (by rw [hy2])
  have d3 : w1.cell? ⟨b, o + (n + 3), none⟩ = some (.int .u8 z3) := ((h.kept hk1).by_ (n + 3) (by omega)).trans (by rw [hy3])
  clear h hy0 hy1 hy2 hy3 z0' z1' z2' z3' hw1 HW
  go_wp2_with fail
  refine wp_loop_rounds 5 ?_
  (rw [rounds_succ]; go_wp2_with fail; go_region; go_wp2_with fail)
  (rw [rounds_succ]; go_wp2_with fail; go_region; go_wp2_with fail)
  (rw [rounds_succ]; go_wp2_with fail; go_region; go_wp2_with fail)
  (rw [rounds_succ]; go_wp2_with fail; go_region; go_wp2_with fail)
  rw [rounds_succ]
  have kd : Kept w w1.drew.drew.drew.drew := hk1.drew.drew.drew.drew
  generalize w1.drew.drew.drew.drew = w2 at kd ⊢
  have hq := Lib.hid ((H.out.cut n (by omega)).kept (kd.alloc (.cells #[] 5)))
  clear d0 d1 d2 d3 f0 f1 f2 f3
  go_wp2_with (at_builtin; refine app_w rfl _ _ rfl (w0 := w) rfl rfl (rw_empty w2 _ kd.size F) (kd.alloc _) hq.out (by omega) ?_; intro v' w3 H3 K3)
  have h3 : Rw w3 w.heap.size v' n F := rw_first H3.out
  obtain ⟨p3, c3, b3, rfl, o3⟩ := h3.ow (fun i hi => H.out.bd i (by omega))
  clear H3 h3
  go_ret2
  exact ⟨p3, c3, b3, rfl, o3, K3⟩
theorem ref_open_sum0 {p : Option Addr} {n c b o : Nat} {F : Nat → Int} {w : World} (h : Sl w p (n + 4) c b o F) (hm : n ≤ 1000000) (x : Nat) (hx : cks 0 F n = x) (hx' : x < 4294967296) (hb : ∀ i, i < 0 → F (n + i) = (byteOf x i : Nat)) (hj : F (n + 0) ≠ (byteOf x 0 : Nat)) : Calls Tryd.prog 24 #[.slice p (n + 4) c] w fun en w' => en = .returned (.tuple #[.slice none 0 0, .int .i64 12]) ∧ Kept w w' := by
  have hp := h.at_ (by omega)
  subst hp
  have hs := ref_sum_s (h.cut n (by omega))
  rw [hx] at hs
  have hl := h.le
  have hx2 := h.mx
  unfold maxLen at hx2
  obtain ⟨y0, hy0⟩ : ∃ y, F (n + 0) = y := ⟨_, rfl⟩
  obtain ⟨z0, hz0⟩ : ∃ z : Int, ((byteOf x 0 : Nat) : Int) = z := ⟨_, rfl⟩
  obtain ⟨y1, hy1⟩ : ∃ y, F (n + 1) = y := ⟨_, rfl⟩
  obtain ⟨z1, hz1⟩ : ∃ z : Int, ((byteOf x 1 : Nat) : Int) = z := ⟨_, rfl⟩
  obtain ⟨y2, hy2⟩ : ∃ y, F (n + 2) = y := ⟨_, rfl⟩
  obtain ⟨z2, hz2⟩ : ∃ z : Int, ((byteOf x 2 : Nat) : Int) = z := ⟨_, rfl⟩
  obtain ⟨y3, hy3⟩ : ∃ y, F (n + 3) = y := ⟨_, rfl⟩
  obtain ⟨z3, hz3⟩ : ∃ z : Int, ((byteOf x 3 : Nat) : Int) = z := ⟨_, rfl⟩
  have hne : (y0 != z0) = true := by rw [bne_iff_ne, ← hy0, ← hz0]; exact hj
  clear hb hj
  have H := Lib.hid h
  have HZ := Lib.hid (And.intro hz0 (And.intro hz1 (And.intro hz2 hz3)))
  have HY := Lib.hid (And.intro hy0 (And.intro hy1 (And.intro hy2 hy3)))
  clear h hz0 hz1 hz2 hz3 hy0 hy1 hy2 hy3 hx
  go_enter Tryd.func24, Tryd.ntmps24
  go_wp2_with fail
  refine hs.mono ?_
  rintro e w' ⟨rfl, rfl⟩
  go_wp2_with fail
  refine (four_w x hx' w).mono ?_
  rintro e w1 ⟨rfl, hw1⟩
  obtain ⟨z0', z1', z2', z3'⟩ := HZ.out
  rw [z0', z1', z2', z3'] at hw1
  have hk1 : Kept w w1 := by rw [hw1]; exact (Kept.refl w).alloc _
  obtain ⟨f0, f1, f2, f3⟩ := four_cells w z0 z1 z2 z3 _ rfl
  rw [← hw1] at f0 f1 f2 f3
  have HW := Lib.hid hw1
  obtain ⟨hy0, hy1, hy2, hy3⟩ := HY.out
  have h := H.out
  have d0 : w1.cell? ⟨b, o + n, none⟩ = some (.int .u8 y0) := ((h.kept hk1).by_ (n + 0) (by omega)).trans (by rw [hy0])
  have d1 : w1.cell? ⟨b, o + (n + 1), none⟩ = some (.int .u8 y1) := ((h.kept hk1).by_ (n + 1) (by omega)).trans (by rw [hy1])
  have d2 : w1.cell? ⟨b, o + (n + 2), none⟩ = some (.int .u8 y2) := ((h.kept hk1).by_ (n + 2) (by omega)).trans (by rw [hy2])
  have d3 : w1.cell? ⟨b, o + (n + 3), none⟩ = some (.int .u8 y3) := ((h.kept hk1).by_ (n + 3) (by omega)).trans (by rw [hy3])
  clear h hy0 hy1 hy2 hy3 z0' z1' z2' z3' hw1 HW
  go_wp2_with fail
  refine wp_loop_rounds 5 ?_
  rw [rounds_succ]; go_wp2_with fail; go_region; go_wp2_with fail
  all_goals (go_ret2; exact ⟨rfl, (by repeat (first | with_reducible exact Kept.refl _ | with_reducible assumption | with_reducible refine Kept.setCell ?_ (by first | (simp; done) | (simp; omega) | omega) _ | with_reducible refine Kept.alloc ?_ _ | with_reducible refine Kept.drewN ?_ _ | with_reducible refine Kept.drew ?_ | with_reducible refine Kept.trans ?_ (by with_reducible assumption) | with_reducible refine Kept.dr ?_ (by with_reducible assumption)))⟩)
theorem ref_open_sum1 {p : Option Addr} {n c b o : Nat} {F : Nat → Int} {w : World} (h : Sl w p (n + 4) c b o F) (hm : n ≤ 1000000) (x : Nat) (hx : cks 0 F n = x) (hx' : x < 4294967296) (hb : ∀ i, i < 1 → F (n + i) = (byteOf x i : Nat)) (hj : F (n + 1) ≠ (byteOf x 1 : Nat)) : Calls Tryd.prog 24 #[.slice p (n + 4) c] w fun en w' => en = .returned (.tuple #[.slice none 0 0, .int .i64 12]) ∧ Kept w w' := by
  have hp := h.at_ (by omega)
  subst hp
  have hs := ref_sum_s (h.cut n (by omega))
  rw [hx] at hs
  have hl := h.le
  have hx2 := h.mx
  unfold maxLen at hx2
  obtain ⟨y0, hy0⟩ : ∃ y, F (n + 0) = y := ⟨_, rfl⟩
  obtain ⟨z0, hz0⟩ : ∃ z : Int, ((byteOf x 0 : Nat) : Int) = z := ⟨_, rfl⟩
  obtain ⟨y1, hy1⟩ : ∃ y, F (n + 1) = y := ⟨_, rfl⟩
  obtain ⟨z1, hz1⟩ : ∃ z : Int, ((byteOf x 1 : Nat) : Int) = z := ⟨_, rfl⟩
  obtain ⟨y2, hy2⟩ : ∃ y, F (n + 2) = y := ⟨_, rfl⟩
  obtain ⟨z2, hz2⟩ : ∃ z : Int, ((byteOf x 2 : Nat) : Int) = z := ⟨_, rfl⟩
  obtain ⟨y3, hy3⟩ : ∃ y, F (n + 3) = y := ⟨_, rfl⟩
  obtain ⟨z3, hz3⟩ : ∃ z : Int, ((byteOf x 3 : Nat) : Int) = z := ⟨_, rfl⟩
  have hne : (y1 != z1) = true := by rw [bne_iff_ne, ← hy1, ← hz1]; exact hj
  obtain rfl : z0 = y0 := (show y0 = z0 by rw [← hy0, ← hz0]; exact hb 0 (by omega)).symm
  clear hb hj
  have H := Lib.hid h
  have HZ := Lib.hid (And.intro hz0 (And.intro hz1 (And.intro hz2 hz3)))
  have HY := Lib.hid (And.intro hy0 (And.intro hy1 (And.intro hy2 hy3)))
  clear h hz0 hz1 hz2 hz3 hy0 hy1 hy2 hy3 hx
  go_enter Tryd.func24, Tryd.ntmps24
  go_wp2_with fail
  refine hs.mono ?_
  rintro e w' ⟨rfl, rfl⟩
  go_wp2_with fail
  refine (four_w x hx' w).mono ?_
  rintro e w1 ⟨rfl, hw1⟩
  obtain ⟨z0', z1', z2', z3'⟩ := HZ.out
  rw [z0', z1', z2', z3'] at hw1
  have hk1 : Kept w w1 := by rw [hw1]; exact (Kept.refl w).alloc _
  obtain ⟨f0, f1, f2, f3⟩ := four_cells w z0 z1 z2 z3 _ rfl
  rw [← hw1] at f0 f1 f2 f3
  have HW := Lib.hid hw1
  obtain ⟨hy0, hy1, hy2, hy3⟩ := HY.out
  have h := H.out
  have d0 : w1.cell? ⟨b, o + n, none⟩ = some (.int .u8 z0) := ((h.kept hk1).by_ (n + 0) (by omega)).trans (by rw [hy0])
  have d1 : w1.cell? ⟨b, o + (n + 1), none⟩ = some (.int .u8 y1) := ((h.kept hk1).by_ (n + 1) (by omega)).trans (by rw [hy1])
  have d2 : w1.cell? ⟨b, o + (n + 2), none⟩ = some (.int .u8 y2) := ((h.kept hk1).by_ (n + 2) (by omega)).trans (by rw [hy2])
  have d3 : w1.cell? ⟨b, o + (n + 3), none⟩ = some (.int .u8 y3) := ((h.kept hk1).by_ (n + 3) (by omega)).trans (by rw [hy3])
  clear h hy0 hy1 hy2 hy3 z0' z1' z2' z3' hw1 HW
  go_wp2_with fail
  refine wp_loop_rounds 5 ?_
  (rw [rounds_succ]; go_wp2_with fail; go_region; go_wp2_with fail)
  rw [rounds_succ]; go_wp2_with fail; go_region; go_wp2_with fail
  all_goals (go_ret2; exact ⟨rfl, (by repeat (first | with_reducible exact Kept.refl _ | with_reducible assumption | with_reducible refine Kept.setCell ?_ (by first | (simp; done) | (simp; omega) | omega) _ | with_reducible refine Kept.alloc ?_ _ | with_reducible refine Kept.drewN ?_ _ | with_reducible refine Kept.drew ?_ | with_reducible refine Kept.trans ?_ (by with_reducible assumption) | with_reducible refine Kept.dr ?_ (by with_reducible assumption)))⟩)
theorem ref_open_sum2 {p : Option Addr} {n c b o : Nat} {F : Nat → Int} {w : World} (h : Sl w p (n + 4) c b o F) (hm : n ≤ 1000000) (x : Nat) (hx : cks 0 F n = x) (hx' : x < 4294967296) (hb : ∀ i, i < 2 → F (n + i) = (byteOf x i : Nat)) (hj : F (n + 2) ≠ (byteOf x 2 : Nat)) : Calls Tryd.prog 24 #[.slice p (n + 4) c] w fun en w' => en = .returned (.tuple #[.slice none 0 0, .int .i64 12]) ∧ Kept w w' := by
  have hp := h.at_ (by omega)
  subst hp
  have hs := ref_sum_s (h.cut n (by omega))
  rw [hx] at hs
  have hl := h.le
  have hx2 := h.mx
  unfold maxLen at hx2
  obtain ⟨y0, hy0⟩ : ∃ y, F (n + 0) = y := ⟨_, rfl⟩
  obtain ⟨z0, hz0⟩ : ∃ z : Int, ((byteOf x 0 : Nat) : Int) = z := ⟨_, rfl⟩
  obtain ⟨y1, hy1⟩ : ∃ y, F (n + 1) = y := ⟨_, rfl⟩
  obtain ⟨z1, hz1⟩ : ∃ z : Int, ((byteOf x 1 : Nat) : Int) = z := ⟨_, rfl⟩
  obtain ⟨y2, hy2⟩ : ∃ y, F (n + 2) = y := ⟨_, rfl⟩
  obtain ⟨z2, hz2⟩ : ∃ z : Int, ((byteOf x 2 : Nat) : Int) = z := ⟨_, rfl⟩
  obtain ⟨y3, hy3⟩ : ∃ y, F (n + 3) = y := ⟨_, rfl⟩
  obtain ⟨z3, hz3⟩ : ∃ z : Int, ((byteOf x 3 : Nat) : Int) = z := ⟨_, rfl⟩
  have hne : (y2 != z2) = true := by rw [bne_iff_ne, ← hy2, ← hz2]; exact hj
  obtain rfl : z0 = y0 := (show y0 = z0 by rw [← hy0, ← hz0]; exact hb 0 (by omega)).symm
  obtain rfl : z1 = y1 := (show y1 = z1 by rw [← hy1, ← hz1]; exact hb 1 (by omega)).symm
  clear hb hj
  have H := Lib.hid h
  have HZ := Lib.hid (And.intro hz0 (And.intro hz1 (And.intro hz2 hz3)))
  have HY := Lib.hid (And.intro hy0 (And.intro hy1 (And.intro hy2 hy3)))
  clear h hz0 hz1 hz2 hz3 hy0 hy1 hy2 hy3 hx
  go_enter Tryd.func24, Tryd.ntmps24
  go_wp2_with fail
  refine hs.mono ?_
  rintro e w' ⟨rfl, rfl⟩
  go_wp2_with fail
  refine (four_w x hx' w).mono ?_
  rintro e w1 ⟨rfl, hw1⟩
  obtain ⟨z0', z1', z2', z3'⟩ := HZ.out
  rw [z0', z1', z2', z3'] at hw1
  have hk1 : Kept w w1 := by rw [hw1]; exact (Kept.refl w).alloc _
  obtain ⟨f0, f1, f2, f3⟩ := four_cells w z0 z1 z2 z3 _ rfl
  rw [← hw1] at f0 f1 f2 f3
  have HW := Lib.hid hw1
  obtain ⟨hy0, hy1, hy2, hy3⟩ := HY.out
  have h := H.out
  have d0 : w1.cell? ⟨b, o + n, none⟩ = some (.int .u8 z0) := ((h.kept hk1).by_ (n + 0) (by omega)).trans (by rw [hy0])
  have d1 : w1.cell? ⟨b, o + (n + 1), none⟩ = some (.int .u8 z1) := ((h.kept hk1).by_ (n + 1) (by omega)).trans (by rw [hy1])
  have d2 : w1.cell? ⟨b, o + (n + 2), none⟩ = some (.int .u8 y2) := ((h.kept hk1).by_ (n + 2) (by omega)).trans (by rw [hy2])
  have d3 : w1.cell? ⟨b, o + (n + 3), none⟩ = some (.int .u8 y3) := ((h.kept hk1).by_ (n + 3) (by omega)).trans (by rw [hy3])
  clear h hy0 hy1 hy2 hy3 z0' z1' z2' z3' hw1 HW
  go_wp2_with fail
  refine wp_loop_rounds 5 ?_
  (rw [rounds_succ]; go_wp2_with fail; go_region; go_wp2_with fail)
  (rw [rounds_succ]; go_wp2_with fail; go_region; go_wp2_with fail)
  rw [rounds_succ]; go_wp2_with fail; go_region; go_wp2_with fail
  all_goals (go_ret2; exact ⟨rfl, (by repeat (first | with_reducible exact Kept.refl _ | with_reducible assumption | with_reducible refine Kept.setCell ?_ (by first | (simp; done) | (simp; omega) | omega) _ | with_reducible refine Kept.alloc ?_ _ | with_reducible refine Kept.drewN ?_ _ | with_reducible refine Kept.drew ?_ | with_reducible refine Kept.trans ?_ (by with_reducible assumption) | with_reducible refine Kept.dr ?_ (by with_reducible assumption)))⟩)
theorem ref_open_sum3 {p : Option Addr} {n c b o : Nat} {F : Nat → Int} {w : World} (h : Sl w p (n + 4) c b o F) (hm : n ≤ 1000000) (x : Nat) (hx : cks 0 F n = x) (hx' : x < 4294967296) (hb : ∀ i, i < 3 → F (n + i) = (byteOf x i : Nat)) (hj : F (n + 3) ≠ (byteOf x 3 : Nat)) : Calls Tryd.prog 24 #[.slice p (n + 4) c] w fun en w' => en = .returned (.tuple #[.slice none 0 0, .int .i64 12]) ∧ Kept w w' := by
  have hp := h.at_ (by omega)
  subst hp
  have hs := ref_sum_s (h.cut n (by omega))
  rw [hx] at hs
  have hl := h.le
  have hx2 := h.mx
  unfold maxLen at hx2
  obtain ⟨y0, hy0⟩ : ∃ y, F (n + 0) = y := ⟨_, rfl⟩
  obtain ⟨z0, hz0⟩ : ∃ z : Int, ((byteOf x 0 : Nat) : Int) = z := ⟨_, rfl⟩
  obtain ⟨y1, hy1⟩ : ∃ y, F (n + 1) = y := ⟨_, rfl⟩
  obtain ⟨z1, hz1⟩ : ∃ z : Int, ((byteOf x 1 : Nat) : Int) = z := ⟨_, rfl⟩
  obtain ⟨y2, hy2⟩ : ∃ y, F (n + 2) = y := ⟨_, rfl⟩
  obtain ⟨z2, hz2⟩ : ∃ z : Int, ((byteOf x 2 : Nat) : Int) = z := ⟨_, rfl⟩
  obtain ⟨y3, hy3⟩ : ∃ y, F (n + 3) = y := ⟨_, rfl⟩
  obtain ⟨z3, hz3⟩ : ∃ z : Int, ((byteOf x 3 : Nat) : Int) = z := ⟨_, rfl⟩
  have hne : (y3 != z3) = true := by rw [bne_iff_ne, ← hy3, ← hz3]; exact hj
  obtain rfl : z0 = y0 := (show y0 = z0 by rw [← hy0, ← hz0]; exact hb 0 (by omega)).symm
  obtain rfl : z1 = y1 := (show y1 = z1 by rw [← hy1, ← hz1]; exact hb 1 (by omega)).symm
  obtain rfl : z2 = y2 := (show y2 = z2 by rw [← hy2, ← hz2]; exact hb 2 (by omega)).symm
  clear hb hj
  have H := Lib.hid h
  have HZ := Lib.hid (And.intro hz0 (And.intro hz1 (And.intro hz2 hz3)))
  have HY := Lib.hid (And.intro hy0 (And.intro hy1 (And.intro hy2 hy3)))
  clear h hz0 hz1 hz2 hz3 hy0 hy1 hy2 hy3 hx
  go_enter Tryd.func24, Tryd.ntmps24
  go_wp2_with fail
  refine hs.mono ?_
  rintro e w' ⟨rfl, rfl⟩
  go_wp2_with fail
  refine (four_w x hx' w).mono ?_
  rintro e w1 ⟨rfl, hw1⟩
  obtain ⟨z0', z1', z2', z3'⟩ := HZ.out
  rw [z0', z1', z2', z3'] at hw1
  have hk1 : Kept w w1 := by rw [hw1]; exact (Kept.refl w).alloc _
  obtain ⟨f0, f1, f2, f3⟩ := four_cells w z0 z1 z2 z3 _ rfl
  rw [← hw1] at f0 f1 f2 f3
  have HW := Lib.hid hw1
  obtain ⟨hy0, hy1, hy2, hy3⟩ := HY.out
  have h := H.out
  have d0 : w1.cell? ⟨b, o + n, none⟩ = some (.int .u8 z0) := ((h.kept hk1).by_ (n + 0) (by omega)).trans (by rw [hy0])
  have d1 : w1.cell? ⟨b, o + (n + 1), none⟩ = some (.int .u8 z1) := ((h.kept hk1).by_ (n + 1) (by omega)).trans (by rw [hy1])
  have d2 : w1.cell? ⟨b, o + (n + 2), none⟩ = some (.int .u8 z2) := ((h.kept hk1).by_ (n + 2) (by omega)).trans (by rw [hy2])
  have d3 : w1.cell? ⟨b, o + (n + 3), none⟩ = some (.int .u8 y3) := ((h.kept hk1).by_ (n + 3) (by omega)).trans (by rw [hy3])
  clear h hy0 hy1 hy2 hy3 z0' z1' z2' z3' hw1 HW
  go_wp2_with fail
  refine wp_loop_rounds 5 ?_
  (rw [rounds_succ]; go_wp2_with fail; go_region; go_wp2_with fail)
  (rw [rounds_succ]; go_wp2_with fail; go_region; go_wp2_with fail)
  (rw [rounds_succ]; go_wp2_with fail; go_region; go_wp2_with fail)
  rw [rounds_succ]; go_wp2_with fail; go_region; go_wp2_with fail
  all_goals (go_ret2; exact ⟨rfl, (by repeat (first | with_reducible exact Kept.refl _ | with_reducible assumption | with_reducible refine Kept.setCell ?_ (by first | (simp; done) | (simp; omega) | omega) _ | with_reducible refine Kept.alloc ?_ _ | with_reducible refine Kept.drewN ?_ _ | with_reducible refine Kept.drew ?_ | with_reducible refine Kept.trans ?_ (by with_reducible assumption) | with_reducible refine Kept.dr ?_ (by with_reducible assumption)))⟩)
theorem ref_open_sum {p : Option Addr} {n c b o : Nat} {F : Nat → Int} {w : World} (h : Sl w p (n + 4) c b o F) (hm : n ≤ 1000000) (x : Nat) (hx : cks 0 F n = x) (hx' : x < 4294967296) (hb : ¬ ∀ i, i < 4 → F (n + i) = (byteOf x i : Nat)) : Calls Tryd.prog 24 #[.slice p (n + 4) c] w fun en w' => en = .returned (.tuple #[.slice none 0 0, .int .i64 12]) ∧ Kept w w' := by
  by_cases e0 : F (n + 0) = (byteOf x 0 : Nat)
  · by_cases e1 : F (n + 1) = (byteOf x 1 : Nat)
    · by_cases e2 : F (n + 2) = (byteOf x 2 : Nat)
      · by_cases e3 : F (n + 3) = (byteOf x 3 : Nat)
        · refine absurd (fun i hi => ?_) hb
          have : i = 0 ∨ i = 1 ∨ i = 2 ∨ i = 3 := by omega
          rcases this with rfl | rfl | rfl | rfl <;> assumption
        · refine ref_open_sum3 h hm x hx hx' (fun i hi => ?_) e3
          have : i = 0 ∨ i = 1 ∨ i = 2 := by omega
          rcases this with rfl | rfl | rfl <;> assumption
      · refine ref_open_sum2 h hm x hx hx' (fun i hi => ?_) e2
        have : i = 0 ∨ i = 1 := by omega
        rcases this with rfl | rfl <;> assumption
    · refine ref_open_sum1 h hm x hx hx' (fun i hi => ?_) e1
      obtain rfl : i = 0 := by omega
      assumption
  · exact ref_open_sum0 h hm x hx hx' (fun i hi => by omega) e0
set_option maxHeartbeats 4000000 in
set_option maxRecDepth 100000 in
theorem law_opens (p0 : Option Addr) (n0 c0 b0 o0 : Nat) (F0 : Nat → Int)  (hl0 : n0 ≤ c0) (hm0 : c0 ≤ maxLen) (fb0 : ∀ i, i < n0 → 0 ≤ F0 i ∧ F0 i ≤ 255)  (w : World) (hT : Hid (Tab w)) (hp0 : 0 < n0 → p0 = some ⟨b0, o0, none⟩ ∧ b0 < w.heap.size) (hn0 : p0 = none → c0 = 0) (hc0 : ∀ i, i < n0 → w.cell? ⟨b0, o0 + (i * 1 + 0), none⟩ = some (.int .u8 (F0 i))) : Calls Tryd.prog 8 #[.slice p0 n0 c0] w fun en w' => en = .returned (.bool true) ∧ Kept w w' := by
  have s0 : Sl w p0 n0 c0 b0 o0 F0 := ⟨hl0, hm0, hn0, fun h => (hp0 h).1, fb0, fun i hi => by simpa using hc0 i hi⟩
  clear hc0 hp0 hn0 fb0
  obtain ⟨m0, x0, y0, hmc0⟩ := cutm n0 1000
  have MC0 := Lib.hid hmc0
  clear hmc0
  have S0 := Lib.hid (s0.cut m0 x0)
  clear s0
  go_enter Tryd.func8, Tryd.ntmps8
  go_wp2_with fail
  refine (awake_w _ hT.out).mono ?_
  rintro e w1 ⟨rfl, hk⟩
  have T1 := Lib.hid (tab_kept hk (World.block_lt_of_cell? _ _ (hT.out 0 (by decide))) hT.out)
  have C0 := Lib.hid (S0.out.kept hk)
  clear S0
  go_wp2_with fail
  refine (cut_w p0 n0 c0 1000 m0 hl0 hm0 (by omega) MC0.out _).mono ?_
  rintro e w' ⟨rfl, rfl⟩
  clear MC0
  go_wp2_with fail
  by_cases h4 : m0 < 4
  · have a0 := open_form C0.out h4
    have a1 := ref_open_form C0.out h4
    have b0 := conv_w (sl_none w1 F0)
    refine a0.mono ?_
    rintro e w' ⟨rfl, rfl⟩
    go_wp2_with fail
    refine a1.mono ?_
    rintro e w' ⟨rfl, rfl⟩
    clear a0 a1
    go_wp2_with fail
    go_ret
    exact ⟨by first | rfl | simp, hk⟩

  · obtain ⟨n, rfl⟩ : ∃ n, m0 = n + 4 := ⟨m0 - 4, by omega⟩
    have hbd := cks_bd F0 n (fun i hi => C0.out.bd i (by omega))
    obtain ⟨x, hx⟩ : ∃ x : Nat, cks 0 F0 n = x := ⟨(cks 0 F0 n).toNat, by omega⟩
    by_cases hr : cks 0 F0 (n + 4) = 558161692
    · have a0 := open_ok C0.out T1.out (by omega) hr
      have hb := cks_sealed F0 n (fun i hi => C0.out.bd i hi) hr
      rw [hx] at hb
      refine a0.mono ?_
      rintro e w2 ⟨p2, c2, b2, rfl, o2, k2⟩
      have a1 := ref_open_ok (C0.out.kept k2) (by omega) x hx (by omega) (fun i hi => by have := hb i hi; have := C0.out.bd (n + i) (by omega); simp at *; omega)
      have O2 := Lib.hid o2
      clear a0 hb hx hr o2
      go_wp2_with fail
      refine a1.mono ?_
      rintro e w3 ⟨p3, c3, b3, rfl, o3, k3⟩
      have c0 := conv_w (O2.out.kept k3).sl
      have c1 := conv_w o3.sl
      have kk := Lib.hid ((hk.trans k2).trans k3)
      clear a1 o3 k3
      go_wp2_with fail
      go_ret
      exact ⟨by first | rfl | simp, kk.out⟩

    · have a0 := open_sum C0.out T1.out (by omega) (by omega) hr
      have a1 := ref_open_sum C0.out (by omega) x hx (by omega) (fun hb => hr (sealed_cks F0 n (fun i hi => C0.out.bd i (by omega)) (fun i hi => by rw [hb i hi, hx]; simp)))
      clear hx hr
      refine a0.mono ?_
      rintro e w' ⟨rfl, rfl⟩
      go_wp2_with fail
      refine a1.mono ?_
      rintro e w3 ⟨rfl, k3⟩
      have c0 := conv_w (sl_none w3 F0)
      have kk := Lib.hid (hk.trans k3)
      clear a0 a1 k3
      go_wp2_with fail
      go_ret
      exact ⟨by first | rfl | simp, kk.out⟩

end Go.Proofs.YtbldklaipdbdjaaDoor
