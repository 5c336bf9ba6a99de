/-
  Own contracts: package crc: opening, sealing, flipping; the chapter's examples.
-/
import Derived.Test.YtbldklaipdbdjaaDoorCrca
import Derived.Deep.AppendLies
import Derived.Laws.OwnMore
import Derived.Lib.SlBytesConst
import Derived.WalkKit
import Derived.ProofKit
import Derived.OpenShut
import Derived.WalkLawsBesides
import Derived.WalkSpells
import Derived.Lib.Hide
import Derived.Deep.DeepCutAuto
import Derived.Deep.CutBlock
import Derived.Deep.QuietTactic
import Derived.BigQuiet
import Derived.Handy
import Derived.StillTailTactics
import Derived.IntWalk
import Derived.LoopN
import Derived.Deep.RegionHeld3
namespace Go.Proofs.YtbldklaipdbdjaaDoor
open Go.ChangeShapes Go.WideShapes Go.ChangeAt Go.RowKit
set_option linter.unusedVariables false
set_option linter.unusedSimpArgs false

theorem info_u8 : (Tryd.prog.info? 5).map (fun i => (i.zero, i.size, i.bytes)) = some (some (.int .u8 0), 1, 1) := by kernel_rfl
theorem made1 (z : Value) (n : Nat) : madeCells #[z] n = Array.replicate n z := by
  apply Array.ext
  · simp [madeCells]
  · intro i h1 h2
    simp [madeCells, Nat.mod_one]
theorem mk_bytes (n : Nat) (hn : n ≤ 1099511627776) (W : World) : (Instr.makeSlice 22 (.int .i64 n) (.int .i64 n)).run Tryd.prog W = .ok (.slice (some ⟨W.heap.size, 0, none⟩) n n) (W.alloc (.cells (madeCells #[.int .u8 0] n) 5)) := by
  obtain ⟨i, hi, h1, h2, h3⟩ := info_parts info_u8
  have := run_make (P := Tryd.prog) W 22 5 i (.int .u8 0) Tryd.underlying22 hi h1 .i64 .i64 n n (by omega) (by omega) (by rw [h3]; omega) (by omega)
  rw [h2] at this
  simpa [Value.cells] using this
theorem und_bytes : Tryd.prog.underlying 22 = some (.slice 5) := by kernel_rfl
/-- n bytes of a block of w -/
def By (w : World) (b o n : Nat) (F : Nat → Int) : Prop := ∀ i, i < n → w.cell? ⟨b, o + i, none⟩ = some (.int .u8 (F i))
def row (F : Nat → Int) (n : Nat) : List Value := (List.range n).map (fun i => .int .u8 (F i))
theorem add_none (b o j : Nat) : (⟨b, o, none⟩ : Addr).add j = ⟨b, o + j, none⟩ := by
  unfold Addr.add
  split
  · rename_i h; subst h; rfl
  · rfl
theorem row_length (F : Nat → Int) (n : Nat) : (row F n).length = n := by simp [row]
theorem row_get (F : Nat → Int) (n j : Nat) (h : j < n) : (row F n)[j]? = some (.int .u8 (F j)) := by simp [row, h]
theorem rowv_of {F : Nat → Int} {n j : Nat} {u : Value} (h : (row F n)[j]? = some u) : j < n ∧ u = .int .u8 (F j) := by
  by_cases hj : j < n
  · rw [row_get F n j hj] at h
    exact ⟨hj, by cases h; rfl⟩
  · rw [List.getElem?_eq_none (by rw [row_length]; omega)] at h
    cases h
theorem row_one (F : Nat → Int) (n : Nat) : ∀ u ∈ row F n, u.oneCell' = true := by
  intro u hu
  simp [row] at hu
  obtain ⟨i, _, rfl⟩ := hu
  rfl
theorem by4 (w : World) (b : Nat) (c0 : w.cell? ⟨b, 0, none⟩ = some (.int .u8 0)) (c1 : w.cell? ⟨b, 1, none⟩ = some (.int .u8 0)) (c2 : w.cell? ⟨b, 2, none⟩ = some (.int .u8 0)) (c3 : w.cell? ⟨b, 3, none⟩ = some (.int .u8 0)) : By w b 0 4 (fun _ => 0) := by
  intro i hi
  have : i = 0 ∨ i = 1 ∨ i = 2 ∨ i = 3 := by omega
  rcases this with rfl | rfl | rfl | rfl
  · exact c0
  · exact c1
  · exact c2
  · exact c3
theorem by9 {w : World} {b : Nat} (i : Nat) (hi : i < 9) (P : Unit) (c0 : w.cell? ⟨b, 0, none⟩ = some (.int .u8 49)) (c1 : w.cell? ⟨b, 1, none⟩ = some (.int .u8 50)) (c2 : w.cell? ⟨b, 2, none⟩ = some (.int .u8 51)) (c3 : w.cell? ⟨b, 3, none⟩ = some (.int .u8 52)) (c4 : w.cell? ⟨b, 4, none⟩ = some (.int .u8 53)) (c5 : w.cell? ⟨b, 5, none⟩ = some (.int .u8 54)) (c6 : w.cell? ⟨b, 6, none⟩ = some (.int .u8 55)) (c7 : w.cell? ⟨b, 7, none⟩ = some (.int .u8 56)) (c8 : w.cell? ⟨b, 8, none⟩ = some (.int .u8 57)) : w.cell? ⟨b, 0 + i, none⟩ = some (.int .u8 (49 + (i : Int))) := by
  have : i = 0 ∨ i = 1 ∨ i = 2 ∨ i = 3 ∨ i = 4 ∨ i = 5 ∨ i = 6 ∨ i = 7 ∨ i = 8 := by omega
  rcases this with rfl | rfl | rfl | rfl | rfl | rfl | rfl | rfl | rfl <;> assumption
theorem by2 (w : World) (b : Nat) (c0 : w.cell? ⟨b, 0, none⟩ = some (.int .u8 0)) (c1 : w.cell? ⟨b, 1, none⟩ = some (.int .u8 0)) : By w b 0 2 (fun _ => 0) := by
  intro i hi
  have : i = 0 ∨ i = 1 := by omega
  rcases this with rfl | rfl
  · exact c0
  · exact c1
theorem grown_kept {w w' : World} (h : w.grownBy w' none) : Kept w w' := ⟨h.os, h.output, h.size, fun k hk => h.block k hk (by simp)⟩
/-- a slice of own bytes: what is known of it -/
theorem own_form {w : World} {base n : Nat} {v : Value} {F : Nat → Int} (h : w.ownsRow base 5 1 v n (row F n)) (hn : 0 < n) :
    ∃ g cap, v = .slice (some ⟨g, 0, none⟩) n cap ∧ n ≤ cap ∧ cap ≤ maxLen ∧ base ≤ g ∧ g < w.heap.size ∧ By w g 0 n F ∧ ∀ j, w.frozen? ⟨g, j, none⟩ = false := by
  obtain ⟨g, cap, rfl, h1, h2⟩ := h.form hn
  refine ⟨g, cap, rfl, ?_, ?_, h1, h2, fun i hi => ?_, fun j => h.frozenAt j⟩
  · rcases h.2 with ⟨h', _⟩ | ⟨_, _, _, h', _, _, hnc, _⟩
    · simp at h'
    · simp at h'; omega
  · rcases h.2 with ⟨h', _⟩ | ⟨_, _, _, h', _, _, _, hcm, _⟩
    · simp at h'
    · simp at h'; omega
  · rw [Nat.zero_add, h.cellAt i (by omega)]; exact row_get F n i hi
set_option maxHeartbeats 1000000 in
theorem clone_w (n c b o : Nat) (F : Nat → Int) (h0 : 0 < n) (hm : n ≤ 1099511627776) (w : World) (hb : b < w.heap.size) (hc : By w b o n F) :
    Calls Tryd.prog 38 #[.slice (some ⟨b, o, none⟩) n c] w fun en w' => ∃ g cap, en = .returned (.slice (some ⟨g, 0, none⟩) n cap) ∧ n ≤ cap ∧ cap ≤ maxLen ∧ Kept w w' ∧ w.heap.size ≤ g ∧ g < w'.heap.size ∧ By w' g 0 n F ∧ ∀ j, w'.frozen? ⟨g, j, none⟩ = false := by
  obtain ⟨i0, hi, hz0, hz1, hz2⟩ := info_parts info_u8
  have he : ∀ w, Sem.run Tryd.prog (binOp BinOp.eql 22 (.slice (some ⟨b, o, none⟩) n c) (.slice none 0 0)) w = .ok (.bool false) w := fun _ => by kernel_rfl
  have Hc := Lib.hid hc
  clear hc
  go_enter Tryd.func38, Tryd.ntmps38
  go_wp2_with (first | (at_builtin; refine wpList_append_grows _ rfl _ _ 22 rfl 5 i0 (.int .u8 0) 1 1 und_bytes hi hz0 hz1 hz2 rfl (by decide) (some ⟨w.heap.size, 0, none⟩) 0 0 [] rfl (fun h => by cases h) rfl (by intro b hb j u hj; simp at hj) ⟨b, o, none⟩ n c (row F n) rfl (by rw [row_length]; omega) ?c2 (row_one F n) (by omega) (by unfold maxLen; omega) (by omega) ?_))
  case c2 =>
    intro j u hj
    obtain ⟨h1, rfl⟩ := rowv_of hj
    have := Hc.out j h1
    rw [← this]
    have e := ((Kept.refl w).alloc (.cells #[] 5)).cell (p := ⟨b, o + j, none⟩) hb
    rw [add_none]; exact e
  intro v' w1 hown hgrow
  have hk := grown_kept hgrow
  obtain ⟨g, cap, rfl, hnc, hcm, hg1, hg2, hby, hfr⟩ := own_form hown h0
  have HB := Lib.hid hby; have HF := Lib.hid hfr; have HO := Lib.hid hown
  clear hby hfr hown hgrow
  go_wp2
  go_ret
  exact ⟨g, cap, rfl, hnc, hcm, ((Kept.refl w).alloc _).trans hk, by (try simp at hg1); omega, hg2, HB.out, HF.out⟩
theorem clone0_w (c b o : Nat) (w : World) :
    Calls Tryd.prog 38 #[.slice (some ⟨b, o, none⟩) 0 c] w fun en w' => en = .returned (.slice (some ⟨w.heap.size, 0, none⟩) 0 0) ∧ Kept w w' := by
  have he : ∀ w, Sem.run Tryd.prog (binOp BinOp.eql 22 (.slice (some ⟨b, o, none⟩) 0 c) (.slice none 0 0)) w = .ok (.bool false) w := fun _ => by kernel_rfl
  go_enter Tryd.func38, Tryd.ntmps38
  go_wp2
  all_goals (go_ret; exact ⟨rfl, (by repeat (first | with_reducible exact Kept.refl _ | with_reducible assumption | with_reducible refine Kept.setCell ?_ (by first | (simp; done) | (simp; omega) | omega) _ | with_reducible refine Kept.alloc ?_ _ | with_reducible refine Kept.drewN ?_ _ | with_reducible refine Kept.drew ?_ | with_reducible refine Kept.trans ?_ (by with_reducible assumption) | with_reducible refine Kept.dr ?_ (by with_reducible assumption)))⟩)
theorem clonen_w (w : World) : Calls Tryd.prog 38 #[.slice none 0 0] w fun en w' => en = .returned (.slice none 0 0) ∧ w = w' := by
  have he : ∀ w, Sem.run Tryd.prog (binOp BinOp.eql 22 (.slice none 0 0) (.slice none 0 0)) w = .ok (.bool true) w := fun _ => by kernel_rfl
  go_enter Tryd.func38, Tryd.ntmps38
  go_wp2
  all_goals (go_ret; exact ⟨rfl, rfl⟩)
theorem open0_w (c b o : Nat) (F : Nat → Int) (fb : ∀ i, i < 4 → 0 ≤ F i ∧ F i ≤ 255) (w : World) (hc : By w b o 4 F) (ht : Tab w) (hr : cks 0 F 4 = 558161692) :
    Calls Tryd.prog 23 #[.slice (some ⟨b, o, none⟩) 4 c] w fun en w' => en = .returned (.tuple #[.slice (some ⟨w.heap.size, 0, none⟩) 0 0, .int .i64 0]) ∧ Kept w w' := by
  have hs := sum_w (some ⟨b, o, none⟩) 4 c b o F (by unfold maxLen; omega) fb w (fun _ => rfl) hc ht
  rw [hr] at hs
  clear hc ht hr fb
  go_enter Tryd.func23, Tryd.ntmps23
  go_wp2_with (first | (go_at_call 15; refine hs.mono ?_; rintro e w' ⟨rfl, rfl⟩) | (go_at_call 38; refine (clone0_w _ _ _ _).mono ?_; rintro e w' ⟨rfl, hk⟩))
  
  all_goals (exact bodyPost_ret (v := .tuple #[.slice (some ⟨w.heap.size, 0, none⟩) 0 0, .int .i64 0]) (by first | (simp [results, Tryd.results23, go_sem]; done) | (simp (maxDischargeDepth := 7) [results, Tryd.results23, go_sem, *]; done)) rfl ⟨rfl, (by repeat (first | with_reducible exact Kept.refl _ | with_reducible assumption | with_reducible refine Kept.setCell ?_ (by first | (simp; done) | (simp; omega) | omega) _ | with_reducible refine Kept.alloc ?_ _ | with_reducible refine Kept.drewN ?_ _ | with_reducible refine Kept.drew ?_ | with_reducible refine Kept.trans ?_ (by with_reducible assumption) | with_reducible refine Kept.dr ?_ (by with_reducible assumption)))⟩
)
theorem tab_alloc {w : World} (ht : Tab w) (o : Obj) : Tab (w.alloc o) := fun i hi => by
  have h := ht i hi
  exact (World.cell?_alloc_some _ _ _ (by rw [h]; rfl)).trans h
theorem tab_kept {w w' : World} (hk : Kept w w') (hg : 0 < w.heap.size) (ht : Tab w) : Tab w' := fun i hi => (hk.cell (p := ⟨0, i, none⟩) hg).trans (ht i hi)
set_option maxHeartbeats 1000000 in
theorem seal0_w (w : World) (ht : Tab w) :
    Calls Tryd.prog 21 #[.slice none 0 0] w fun en w' => ∃ g, en = .returned (.slice (some ⟨g, 0, none⟩) 4 4) ∧ Kept w w' ∧ g = w.heap.size ∧ By w' g 0 4 (fun _ => 0) := by
  have hs := sum_w none 0 0 0 0 (fun _ => 0) (by unfold maxLen; omega) (fun i hi => by omega)
  have ez : cks 0 (fun _ => 0) 0 = 0 := by decide +kernel
  simp only [ez] at hs
  have mk : ∀ W : World, (Instr.makeSlice 22 (.int .i64 4) (.int .i64 4)).run Tryd.prog W = .ok (.slice (some ⟨W.heap.size, 0, none⟩) 4 4) (W.alloc (.cells #[.int .u8 0, .int .u8 0, .int .u8 0, .int .u8 0] 5)) := fun W => by
    have h := mk_bytes 4 (by decide) W
    rw [show madeCells #[.int .u8 0] 4 = #[.int .u8 0, .int .u8 0, .int .u8 0, .int .u8 0] from by rw [made1]; rfl] at h
    exact h
  have cp : ∀ (b : Nat) (W : World), Sem.run Tryd.prog (Builtin.copy_ #[22, 22] 3 #[.slice (some ⟨b, 0, none⟩) 4 4, .slice none 0 0]) W = .ok (.int .i64 0) W := fun b W => by kernel_rfl
  have Ht := Lib.hid ht
  clear ht
  go_enter Tryd.func21, Tryd.ntmps21
  go_wp2_with (first | (go_at_call 15; refine (hs _ (fun h => by omega) (fun i hi => by omega) (tab_alloc Ht.out _)).mono ?_; rintro e w' ⟨rfl, rfl⟩))
  
  refine wp_loop_rounds 5 ?_
  repeat (rw [rounds_succ]; go_wp2)
  go_ret
  refine ⟨w.heap.size, rfl, (by repeat (first | with_reducible exact Kept.refl _ | with_reducible assumption | with_reducible refine Kept.setCell ?_ (by first | (simp; done) | (simp; omega) | omega) _ | with_reducible refine Kept.alloc ?_ _ | with_reducible refine Kept.drewN ?_ _ | with_reducible refine Kept.drew ?_ | with_reducible refine Kept.trans ?_ (by with_reducible assumption) | with_reducible refine Kept.dr ?_ (by with_reducible assumption))), rfl, ?_⟩
  intro i hi
  have : i = 0 ∨ i = 1 ∨ i = 2 ∨ i = 3 := by omega
  rcases this with rfl | rfl | rfl | rfl <;> simp [go_sem]
set_option maxHeartbeats 4000000 in
theorem flip0_w (b c : Nat) (w : World) (hb : b < w.heap.size) (hc : By w b 0 2 (fun _ => 0)) :
    Calls Tryd.prog 25 #[.slice (some ⟨b, 0, none⟩) 2 c, .int .i64 7, .int .u32 3] w fun en w' => ∃ g cap, en = .returned (.tuple #[.slice (some ⟨g, 0, none⟩) 2 cap, .int .i64 0]) ∧ Kept w w' ∧ w.heap.size ≤ g ∧ g < w'.heap.size ∧ w'.cell? ⟨g, 0, none⟩ = some (.int .u8 128) ∧ w'.cell? ⟨g, 1, none⟩ = some (.int .u8 1) := by
  go_enter Tryd.func25, Tryd.ntmps25
  go_wp2_with (first | (go_at_call 38; refine (clone_w 2 c b 0 (fun _ => 0) (by omega) (by omega) _ (by first | assumption | (simp; omega)) (by assumption)).mono ?_; rintro e w1 ⟨g, cap, rfl, hcap, hcm, hk, hg1, hg2, hby, hfr⟩))
  have d0 : w1.cell? ⟨g, 0, none⟩ = some (.int .u8 0) := hby 0 (by omega)
  have d1 : w1.cell? ⟨g, 1, none⟩ = some (.int .u8 0) := hby 1 (by omega)
  have HB := Lib.hid hby
  clear hby hc
  have e1 : bits .xor .u8 0 128 = 128 := by decide +kernel
  have e2 : bits .xor .u8 0 1 = 1 := by decide +kernel
  refine wp_loop_rounds 33 ?_
  rw [rounds_succ]; go_wp2
  go_region
  go_wp2
  rw [rounds_succ]; go_wp2
  go_region
  go_wp2
  repeat (rw [rounds_succ]; go_wp2)
  exact bodyPost_ret (v := .tuple #[.slice (some ⟨g, 0, none⟩) 2 cap, .int .i64 0]) (by first | (simp [results, Tryd.results25, go_sem]; done) | (simp (maxDischargeDepth := 7) [results, Tryd.results25, go_sem, *]; done)) rfl ⟨g, cap, rfl, (by repeat (first | with_reducible exact Kept.refl _ | with_reducible assumption | with_reducible refine Kept.setCell ?_ (by first | (simp; done) | (simp; omega) | omega) _ | with_reducible refine Kept.alloc ?_ _ | with_reducible refine Kept.drewN ?_ _ | with_reducible refine Kept.drew ?_ | with_reducible refine Kept.trans ?_ (by with_reducible assumption) | with_reducible refine Kept.dr ?_ (by with_reducible assumption))), hg1, by simp; exact hg2, by simp (maxDischargeDepth := 7) [go_sem, e1, e2, d0, d1, hfr], by simp (maxDischargeDepth := 7) [go_sem, e1, e2, d0, d1, hfr]⟩
theorem by1 {w : World} {b : Nat} (i : Nat) (hi : i < 1) (v : Value) (h : w.cell? ⟨b, 0, none⟩ = some v) : w.cell? ⟨b, 0 + i, none⟩ = some v := by
  obtain rfl : i = 0 := by omega
  exact h
theorem conv2 (g cap : Nat) (W : World) : W.cell? ⟨g, 0, none⟩ = some (.int .u8 128) → W.cell? ⟨g, 1, none⟩ = some (.int .u8 1) → Sem.run Tryd.prog (convert 22 9 (.slice (some ⟨g, 0, none⟩) 2 cap)) W = .ok (.string ⟨#[128, 1]⟩) W := by
  intro h0 h1
  refine run_convert_bytes_back W 22 9 5 ⟨g, 0, none⟩ cap [128, 1] und_bytes (by kernel_rfl) (by kernel_rfl) ?_
  intro j hj
  rw [add_none]
  match j, hj with
      | 0, _ => exact h0
      | 1, _ => exact h1
theorem conv4 (g cap : Nat) (W : World) : W.cell? ⟨g, 0, none⟩ = some (.int .u8 0) → W.cell? ⟨g, 1, none⟩ = some (.int .u8 0) → W.cell? ⟨g, 2, none⟩ = some (.int .u8 0) → W.cell? ⟨g, 3, none⟩ = some (.int .u8 0) → Sem.run Tryd.prog (convert 22 9 (.slice (some ⟨g, 0, none⟩) 4 cap)) W = .ok (.string ⟨#[0, 0, 0, 0]⟩) W := by
  intro h0 h1 h2 h3
  refine run_convert_bytes_back W 22 9 5 ⟨g, 0, none⟩ cap [0, 0, 0, 0] und_bytes (by kernel_rfl) (by kernel_rfl) ?_
  intro j hj
  rw [add_none]
  match j, hj with
      | 0, _ => exact h0
      | 1, _ => exact h1
      | 2, _ => exact h2
      | 3, _ => exact h3
set_option maxHeartbeats 4000000 in
theorem awake_w (w : World) (ht : Tab w) : Calls Tryd.prog 13 #[] w fun en w' => en = .returned (.bool true) ∧ Kept w w' := by
  have hg : 0 < w.heap.size := World.block_lt_of_cell? _ _ (ht 0 (by decide))
  go_enter Tryd.func13, Tryd.ntmps13
  go_wp2_with fail
  refine (open0_w 4 w.heap.size 0 (fun _ => 0) (by intro i _; omega) _ (by4 _ _ (by simp [go_sem]) (by simp [go_sem]) (by simp [go_sem]) (by simp [go_sem])) (tab_alloc ht _) (by decide +kernel)).mono ?_
  rintro e w1 ⟨rfl, hk1⟩
  have k1 : Kept w w1 := ((Kept.refl w).alloc _).trans hk1
  go_wp2_with fail
  refine (flip0_w w1.heap.size 2 _ (by simp) (by2 _ _ (by simp [go_sem]) (by simp [go_sem]))).mono ?_
  rintro e w2 ⟨g, cap, rfl, hk2, hg1, hg2, d0, d1⟩
  have k2 : Kept w w2 := (k1.alloc _).trans hk2
  have t2 := tab_kept k2 hg ht
  have kc := fun (W : World) (C : Array Value) (n c : Nat) => Lib.run_convert_bytes_const (P := Tryd.prog) W 22 5 C n c und_bytes (by kernel_rfl)
  have ca : ∀ (o1 o2 : Obj) (j : Nat), ((w2.alloc o1).alloc o2).cell? ⟨g, j, none⟩ = w2.cell? ⟨g, j, none⟩ := fun o1 o2 j => (((Kept.refl w2).alloc o1).alloc o2).cell (p := ⟨g, j, none⟩) hg2
  have c2 : ∀ (o1 o2 : Obj), Sem.run Tryd.prog (convert 22 9 (.slice (some ⟨g, 0, none⟩) 2 cap)) ((w2.alloc o1).alloc o2) = .ok (.string ⟨#[128, 1]⟩) ((w2.alloc o1).alloc o2) := fun o1 o2 => conv2 g cap _ ((ca o1 o2 0).trans d0) ((ca o1 o2 1).trans d1)
  clear ca
  have T2 := Lib.hid t2
  have hge : ¬ w2.heap.size = g := by omega
  have hge1 : ¬ w2.heap.size + 1 = g := by omega
  clear t2 ht
  go_wp2_with fail
  refine (sum_w (some ⟨w2.heap.size, 0, none⟩) 9 9 w2.heap.size 0 (fun i => 49 + i) (by unfold maxLen; omega) (by intro i hi; omega) _ (fun _ => rfl) (fun i hi => by9 i hi () (by rw [World.cell?_alloc_mark]; rfl) (by rw [World.cell?_alloc_mark]; rfl) (by rw [World.cell?_alloc_mark]; rfl) (by rw [World.cell?_alloc_mark]; rfl) (by rw [World.cell?_alloc_mark]; rfl) (by rw [World.cell?_alloc_mark]; rfl) (by rw [World.cell?_alloc_mark]; rfl) (by rw [World.cell?_alloc_mark]; rfl) (by rw [World.cell?_alloc_mark]; rfl)) (tab_alloc T2.out _)).mono ?_
  rintro e w3 ⟨rfl, rfl⟩
  rw [show cks 0 (fun i => 49 + (i : Int)) 9 = 3421780262 by decide +kernel]
  go_wp2_with fail
  refine (sum_w (some ⟨w2.heap.size + 1, 0, none⟩) 1 1 (w2.heap.size + 1) 0 (fun i => 0) (by unfold maxLen; omega) (by intro i hi; omega) _ (fun _ => rfl) (fun i hi => by1 i hi _ (by simp [go_sem])) (tab_alloc (tab_alloc T2.out _) _)).mono ?_
  rintro e w3 ⟨rfl, rfl⟩
  rw [show cks 0 (fun i => 0) 1 = 3523407757 by decide +kernel]
  go_wp2_with fail
  refine (seal0_w _ (tab_alloc (tab_alloc T2.out _) _)).mono ?_
  rintro e w4 ⟨g4, rfl, hk4, hg4, hb4⟩
  have k4 : Kept w w4 := ((k2.alloc _).alloc _).trans hk4
  have c4 := conv4 g4 4 w4 (hb4 0 (by omega)) (hb4 1 (by omega)) (hb4 2 (by omega)) (hb4 3 (by omega))
  clear hb4 hg4
  go_wp2_with fail
  go_ret
  exact ⟨rfl, k4⟩
end Go.Proofs.YtbldklaipdbdjaaDoor
