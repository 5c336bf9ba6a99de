/-
  Own contracts: the chapter's examples of layer 51.
-/
import Derived.Test.YteibanlajbmgnaaVerav
import Derived.WalkKit
import Derived.ProofKit
import Derived.OpenShut
import Derived.WalkLawsBesides
import Derived.WalkSpells
import Derived.Lib.Hide
import Derived.Deep.DeepCutAuto
import Derived.Deep.CutBlock
import Derived.Deep.QuietTactic
import Derived.BigQuiet
import Derived.Handy
import Derived.StillTailTactics
import Derived.IntWalk
import Derived.LoopN
import Derived.Deep.RegionHeld3
namespace Go.Proofs.Yteibanlajbmgnaa
open Go.ChangeShapes Go.WideShapes Go.ChangeAt Go.RowKit
set_option linter.unusedVariables false
set_option linter.unusedSimpArgs false
def PA : Array Value := #[.int .i64 0, .int .i64 0, .int .i64 0, .int .i64 0, .int .i64 0, .int .i64 0, .int .i64 0, .int .i64 0, .int .i64 0, .int .i64 0, .int .i64 0, .int .i64 0, .int .u8 0, .int .i64 1000, .int .i64 0, .int .i64 0, .int .i64 0, .int .i64 0, .int .i64 0, .int .i64 0, .int .i64 0, .int .i64 0, .int .i64 0, .int .i64 0, .int .i64 0, .int .u8 0, .int .i64 1000, .int .i64 0, .int .i64 0, .int .i64 0, .int .i64 0, .int .i64 0, .int .i64 0, .int .i64 0, .int .i64 0, .int .i64 0, .int .i64 0, .int .i64 0, .int .u8 0]
def pz (k j : Nat) : Int := if j = 0 then (if k = 0 then 0 else 1000) else 0
theorem pa_cells (P : Nat) (W : World) (hb : W.heap[P]? = some (.cells PA 35 (0, 0))) : ∀ k, k < 3 → (∀ j, j < 12 → W.cell? ⟨P, k * 13 + j, none⟩ = some (.int .i64 (pz k j))) ∧ W.cell? ⟨P, k * 13 + 12, none⟩ = some (.int .u8 (pz k 12)) := by
  intro k hk
  have h3 : k = 0 ∨ k = 1 ∨ k = 2 := by omega
  refine ⟨fun j hj => ?_, ?_⟩
  · rw [cell_of_row W P _ PA _ _ hb]
    have h12 : j = 0 ∨ j = 1 ∨ j = 2 ∨ j = 3 ∨ j = 4 ∨ j = 5 ∨ j = 6 ∨ j = 7 ∨ j = 8 ∨ j = 9 ∨ j = 10 ∨ j = 11 := by omega
    rcases h3 with rfl | rfl | rfl <;> rcases h12 with rfl | rfl | rfl | rfl | rfl | rfl | rfl | rfl | rfl | rfl | rfl | rfl <;> rfl
  · rw [cell_of_row W P _ PA _ _ hb]
    rcases h3 with rfl | rfl | rfl <;> rfl
def Alts3 (W : World) (e : Ending) (w' : World) : Prop := ∃ g cap, e = .returned (.slice (some ⟨g, 0, none⟩) 3 cap) ∧ W.heap.size ≤ g ∧ g < w'.heap.size ∧ w'.cell? ⟨g, 0, none⟩ = some (.int .i64 0) ∧ w'.cell? ⟨g, 1, none⟩ = some (.int .i64 1000) ∧ w'.cell? ⟨g, 2, none⟩ = some (.int .i64 1000) ∧ Kept W w'
theorem alts3 (P : Nat) (W : World) (hb : W.heap[P]? = some (.cells PA 35 (0, 0))) : Calls Try.prog 29 #[.agg #[.slice (some ⟨P, 0, none⟩) 3 3, .int .i64 0, .int .i64 0, .bool false]] W (Alts3 W) := by
  have hP : P < W.heap.size := (Array.getElem?_eq_some_iff.1 hb).1
  refine (alts_w P 3 pz 0 0 false W hP (by decide) (pa_cells P W hb)).mono ?_
  rintro e w' ⟨v, rfl, hown, hk⟩
  have hown' := hown
  rcases hown.2 with ⟨_, h⟩ | ⟨q, cap, cur, rfl, hq, hg, _⟩
  · exact absurd h (by decide)
  · have hl := (hown'.lt q rfl).2
    have hadd : ∀ j, (⟨q, 0, none⟩ : Addr).add j = ⟨q, j, none⟩ := fun j => by unfold Addr.add; split <;> simp_all
    have c := fun j u hu => hown'.cells (g := q) rfl j u hu
    refine ⟨q, cap, rfl, hq, hl, ?_, ?_, ?_, hk⟩
    · have := c 0 _ rfl; rw [hadd] at this; exact this
    · have := c 1 _ rfl; rw [hadd] at this; exact this
    · have := c 2 _ rfl; rw [hadd] at this; exact this
theorem blk_alloc {w : World} {P : Nat} {o : Obj} (x : Obj) (h : w.heap[P]? = some o) : (w.alloc x).heap[P]? = some o := by
  have hP : P < w.heap.size := (Array.getElem?_eq_some_iff.1 h).1
  rw [Below.heap_alloc w x P hP]; exact h
theorem new_cell (w : World) (cs : Array Value) (t : TypeId) (i : Nat) {v : Value} (h : cs[i]? = some v) : (w.alloc (.cells cs t)).cell? ⟨w.heap.size, i, none⟩ = some v := by
  rw [cell_of_row _ _ _ cs t (0, 0) (heap_alloc_new w _)]; exact h
theorem cut_in (v : Int) (h0 : -10000 ≤ v) (h1 : v ≤ 10000) (w : World) : Calls Try.prog 31 #[.int .i64 v] w fun e w' => e = .returned (.int .i64 v) ∧ w = w' := by
  go_enter Try.func31, Try.ntmps31
  go_wp2_with (go_at_call 26; refine (clamp_mid _ _ _ (by omega) (by omega) _).mono ?_; rintro e w' ⟨rfl, rfl⟩)
  go_ret
  exact ⟨rfl, rfl⟩
theorem target1 (P d : Nat) (w : World) (hb : w.heap[P]? = some (.cells PA 35 (0, 0))) (hd : d < w.heap.size) (e0 : w.cell? ⟨d, 0, none⟩ = some (.int .i64 6000)) (e1 : w.cell? ⟨d, 1, none⟩ = some (.int .i64 6000)) : Calls Try.prog 18 #[.agg #[.slice (some ⟨P, 0, none⟩) 3 3, .int .i64 0, .int .i64 0, .bool false], .slice (some ⟨d, 0, none⟩) 2 2, .int .i64 3000] w fun e w' => e = .returned (.tuple #[.int .i64 500, .int .i64 0]) ∧ Kept w w' := by
  go_enter Try.func18, Try.ntmps18
  go_wp2_with (first | (go_at_call 29; refine (alts3 P _ (blk_alloc _ hb)).mono ?_; rintro e w1 ⟨g, cap, rfl, hg0, hg1, c0, c1, c2, hk⟩; have e0' := (hk.cell (p := ⟨d, 0, none⟩) (by simp; omega)).trans (show (w.alloc _).cell? ⟨d, 0, none⟩ = _ by simpa [go_sem, hd] using e0); have e1' := (hk.cell (p := ⟨d, 1, none⟩) (by simp; omega)).trans (show (w.alloc _).cell? ⟨d, 1, none⟩ = _ by simpa [go_sem, hd] using e1); clear e0 e1) | (go_at_call 28; refine (between1 _ _ _ _ c0 c1 c2 e0' e1').mono ?_; rintro e w2 ⟨rfl, n2, rfl⟩))
  go_ret2
  exact ⟨rfl, (by repeat (first | with_reducible exact Kept.refl _ | with_reducible assumption | with_reducible refine Kept.setCell ?_ (by first | (simp; done) | (simp; omega) | omega) _ | with_reducible refine Kept.alloc ?_ _ | with_reducible refine Kept.drewN ?_ _ | with_reducible refine Kept.drew ?_ | with_reducible refine Kept.trans ?_ (by with_reducible assumption) | with_reducible refine Kept.dr ?_ (by with_reducible assumption)))⟩
set_option maxHeartbeats 1000000 in
theorem path1 (P d : Nat) (w : World) (hb : w.heap[P]? = some (.cells PA 35 (0, 0))) (hd : d < w.heap.size) (e0 : w.cell? ⟨d, 0, none⟩ = some (.int .i64 6000)) (e1 : w.cell? ⟨d, 1, none⟩ = some (.int .i64 6000)) : Calls Try.prog 19 #[.agg #[.slice (some ⟨P, 0, none⟩) 3 3, .int .i64 0, .int .i64 0, .bool false], .slice (some ⟨d, 0, none⟩) 2 2, .int .i64 3000, .int .i64 300] w fun e w' => e = .returned (.tuple #[.int .i64 50, .int .i64 0]) ∧ Kept w w' := by
  have hv : Hid (mqv 0 (1000 - 0) 300 6000 = 50) := Lib.hid (by decide +kernel)
  have he : Hid (mqe 0 (1000 - 0) 300 6000 = 0) := Lib.hid (by decide +kernel)
  go_enter Try.func19, Try.ntmps19
  go_wp2_with (first | (go_at_call 29; refine (alts3 P _ (blk_alloc _ hb)).mono ?_; rintro e w1 ⟨g, cap, rfl, hg0, hg1, c0, c1, c2, hk⟩; have e0' := (hk.cell (p := ⟨d, 0, none⟩) (by simp; omega)).trans (show (w.alloc _).cell? ⟨d, 0, none⟩ = _ by simpa [go_sem, hd] using e0); have e1' := (hk.cell (p := ⟨d, 1, none⟩) (by simp; omega)).trans (show (w.alloc _).cell? ⟨d, 1, none⟩ = _ by simpa [go_sem, hd] using e1); clear e0 e1) | (go_at_call 28; refine (between1 _ _ _ _ c0 c1 c2 e0' e1').mono ?_; rintro e w2 ⟨rfl, n2, rfl⟩))
  refine wp_loop_rounds 2 ?_
  repeat (rw [rounds_succ]; go_wp2)
  go_quiet ((go_at_call 30; first | exact quiet_dr (mul_ok _ _ _ _ (by omega) (by omega) (by omega) (by omega) (by omega) (by omega) hv he _) | exact quiet_dr_add (mul_ok _ _ _ _ (by omega) (by omega) (by omega) (by omega) (by omega) (by omega) hv he _)))
  go_wp2_with (go_at_call 31; refine (cut_in _ (by omega) (by omega) _).mono ?_; rintro e w' ⟨rfl, rfl⟩)
  go_ret2
  exact ⟨rfl, (by repeat (first | with_reducible exact Kept.refl _ | with_reducible assumption | with_reducible refine Kept.setCell ?_ (by first | (simp; done) | (simp; omega) | omega) _ | with_reducible refine Kept.alloc ?_ _ | with_reducible refine Kept.drewN ?_ _ | with_reducible refine Kept.drew ?_ | with_reducible refine Kept.trans ?_ (by with_reducible assumption) | with_reducible refine Kept.dr ?_ (by with_reducible assumption)))⟩
set_option maxHeartbeats 1000000 in
theorem path2 (P d : Nat) (w : World) (hb : w.heap[P]? = some (.cells PA 35 (0, 0))) (hd : d < w.heap.size) (e0 : w.cell? ⟨d, 0, none⟩ = some (.int .i64 6000)) (e1 : w.cell? ⟨d, 1, none⟩ = some (.int .i64 6000)) : Calls Try.prog 19 #[.agg #[.slice (some ⟨P, 0, none⟩) 3 3, .int .i64 0, .int .i64 0, .bool false], .slice (some ⟨d, 0, none⟩) 2 2, .int .i64 6000, .int .i64 300] w fun e w' => e = .returned (.tuple #[.int .i64 0, .int .i64 0]) ∧ Kept w w' := by
  have hv : Hid (mqv 0 (1000 - 1000) 300 6000 = 0) := Lib.hid (by decide +kernel)
  have he : Hid (mqe 0 (1000 - 1000) 300 6000 = 0) := Lib.hid (by decide +kernel)
  go_enter Try.func19, Try.ntmps19
  go_wp2_with (first | (go_at_call 29; refine (alts3 P _ (blk_alloc _ hb)).mono ?_; rintro e w1 ⟨g, cap, rfl, hg0, hg1, c0, c1, c2, hk⟩; have e0' := (hk.cell (p := ⟨d, 0, none⟩) (by simp; omega)).trans (show (w.alloc _).cell? ⟨d, 0, none⟩ = _ by simpa [go_sem, hd] using e0); have e1' := (hk.cell (p := ⟨d, 1, none⟩) (by simp; omega)).trans (show (w.alloc _).cell? ⟨d, 1, none⟩ = _ by simpa [go_sem, hd] using e1); clear e0 e1) | (go_at_call 28; refine (between2 _ _ _ _ c0 c1 c2 e0' e1').mono ?_; rintro e w2 ⟨rfl, n2, rfl⟩))
  refine wp_loop_rounds 3 ?_
  repeat (rw [rounds_succ]; go_wp2)
  go_quiet ((go_at_call 30; first | exact quiet_dr (mul_ok _ _ _ _ (by omega) (by omega) (by omega) (by omega) (by omega) (by omega) hv he _) | exact quiet_dr_add (mul_ok _ _ _ _ (by omega) (by omega) (by omega) (by omega) (by omega) (by omega) hv he _)))
  go_wp2_with (go_at_call 31; refine (cut_in _ (by omega) (by omega) _).mono ?_; rintro e w' ⟨rfl, rfl⟩)
  go_ret2
  exact ⟨rfl, (by repeat (first | with_reducible exact Kept.refl _ | with_reducible assumption | with_reducible refine Kept.setCell ?_ (by first | (simp; done) | (simp; omega) | omega) _ | with_reducible refine Kept.alloc ?_ _ | with_reducible refine Kept.drewN ?_ _ | with_reducible refine Kept.drew ?_ | with_reducible refine Kept.trans ?_ (by with_reducible assumption) | with_reducible refine Kept.dr ?_ (by with_reducible assumption)))⟩
set_option maxHeartbeats 2000000 in
theorem awake_w (w : World) : Calls Try.prog 9 #[] w fun e w' => e = .returned (.bool true) ∧ Kept w w' := by
  have v1 : cmdV 0 1000 2000 = 63 := by decide +kernel
  have v2 : cmdV 0 (-5) 2000 = -1 := by decide +kernel
  have v3 : clampI (-500) (100 - 40) (100 + 40) = 60 := by decide +kernel
  have v4 : capB 0 100 1600 = true := by decide +kernel
  have v5 : capB 0 100 1601 = false := by decide +kernel
  go_enter Try.func9, Try.ntmps9
  go_wp2_with (first | (go_at_call 12; (first | refine (cmd_ok _ _ _ (by omega) (by omega) (by omega) (by omega) (by omega) (by omega) _).mono ?_); rintro e w' ⟨rfl, rfl⟩) | (go_at_call 14; (first | refine (lim_ok _ _ (by omega) (by omega) (by omega) (by omega) _).mono ?_); rintro e w' ⟨rfl, rfl⟩) | (go_at_call 16; (first | refine (cap_ok _ _ _ (by omega) (by omega) (by omega) (by omega) (by omega) (by omega) _).mono ?_); rintro e w' ⟨rfl, rfl⟩))
  refine (target1 w.heap.size (w.heap.size + 2) _ (blk_alloc _ (blk_alloc _ (heap_alloc_new _ _))) (by simp) (by simp [go_sem]) (by simp [go_sem])).mono ?_
  rintro e w1 ⟨rfl, hk1⟩
  have hb1 := (hk1.block w.heap.size (by simp; omega)).trans (blk_alloc _ (blk_alloc _ (heap_alloc_new _ _)))
  have hz1 : w.heap.size + 2 < w1.heap.size := by have := hk1.size; simp at this; omega
  refine kuse (b := w.heap.size + 1) hk1 (by simp) ?_
  intro hq1 hg1
  have hy1 : w.heap.size + 1 < w1.heap.size := by omega
  go_wp2_with fail
  refine (path1 w.heap.size w1.heap.size _ (blk_alloc _ hb1) (by simp) (new_cell _ _ _ _ rfl) (new_cell _ _ _ _ rfl)).mono ?_
  rintro e w2 ⟨rfl, hk2⟩
  have hb2 := (hk2.block w.heap.size (by simp; omega)).trans (blk_alloc _ hb1)
  have hz2 : w.heap.size + 2 < w2.heap.size := by have := hk2.size; simp at this; omega
  refine kuse (b := w.heap.size + 1) hk2 (by simp; omega) ?_
  intro hq2 hg2
  have hy2 : w.heap.size + 1 < w2.heap.size := by omega
  go_wp2_with fail
  refine (path2 w.heap.size w2.heap.size _ (blk_alloc _ hb2) (by simp) (new_cell _ _ _ _ rfl) (new_cell _ _ _ _ rfl)).mono ?_
  rintro e w3 ⟨rfl, hk3⟩
  clear hb1 hb2 hq1 hg1 hq2 hg2
  go_wp2_with (first | (go_at_call 10; (first | refine (dev_in _ _ (by omega) (by omega) (by omega) (by omega) _).mono ?_); rintro e w' ⟨rfl, rfl⟩))
  all_goals go_ret
  all_goals exact ⟨rfl, (by repeat (first | with_reducible exact Kept.refl _ | with_reducible assumption | with_reducible refine Kept.setCell ?_ (by first | (simp; done) | (simp; omega) | omega) _ | with_reducible refine Kept.alloc ?_ _ | with_reducible refine Kept.drewN ?_ _ | with_reducible refine Kept.drew ?_ | with_reducible refine Kept.trans ?_ (by with_reducible assumption) | with_reducible refine Kept.dr ?_ (by with_reducible assumption)))⟩
end Go.Proofs.Yteibanlajbmgnaa
