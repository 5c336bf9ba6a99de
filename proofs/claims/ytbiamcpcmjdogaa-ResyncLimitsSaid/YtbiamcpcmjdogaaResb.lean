/-
  Own contracts: package resync: the pieces of 601 bytes; awake.
-/
import Derived.Test.YtbiamcpcmjdogaaResa
import Derived.WalkKit
import Derived.ProofKit
import Derived.OpenShut
import Derived.WalkLawsBesides
import Derived.WalkSpells
import Derived.Lib.Hide
import Derived.Deep.DeepCutAuto
import Derived.Deep.CutBlock
import Derived.Deep.QuietTactic
import Derived.BigQuiet
import Derived.Handy
import Derived.StillTailTactics
import Derived.IntWalk
import Derived.LoopN
import Derived.Deep.RegionHeld3
namespace Go.Proofs.Ytbiamcpcmjdogaa
open Go.ChangeShapes Go.WideShapes Go.ChangeAt Go.RowKit
set_option linter.unusedVariables false
set_option linter.unusedSimpArgs false

def Z : Nat → Int := fun _ => 0
theorem info_pc : (Try.prog.info? 39).map (fun i => (i.zero, i.size, i.bytes)) = some (some (.agg #[.int .i64 0, .int .i64 0, .int .i64 0, .slice none 0 0]), 4, 48) := by kernel_rfl
theorem mk_pc (W : World) : (Instr.makeSlice 33 (.int .i64 2) (.int .i64 2)).run Try.prog W = .ok (.slice (some ⟨W.heap.size, 0, none⟩) 2 2) (W.alloc (.cells #[.int .i64 0, .int .i64 0, .int .i64 0, .slice none 0 0, .int .i64 0, .int .i64 0, .int .i64 0, .slice none 0 0] 39)) := by
  obtain ⟨i, hi, h1, h2, h3⟩ := info_parts info_pc
  have := run_make (P := Try.prog) W 33 39 i (.agg #[.int .i64 0, .int .i64 0, .int .i64 0, .slice none 0 0]) (by kernel_rfl) hi h1 .i64 .i64 2 2 (by omega) (by omega) (by rw [h3]; omega) (by omega)
  rw [h2] at this
  rw [show madeCells (.agg #[.int .i64 0, .int .i64 0, .int .i64 0, .slice none 0 0] : Value).cells ((2 : Int).toNat * 4) = #[.int .i64 0, .int .i64 0, .int .i64 0, .slice none 0 0, .int .i64 0, .int .i64 0, .int .i64 0, .slice none 0 0] from by first | kernel_rfl | (simp [madeCells, Value.cells]; done) | decide] at this
  exact this
set_option maxHeartbeats 2000000 in
set_option maxRecDepth 100000 in
theorem possible_w (w : World) : Calls Try.prog 14 #[.int .i64 3] w fun en w' => en = .returned (.bool true) ∧ w = w' := by
  go_enter Try.func14, Try.ntmps14
  go_wp2_with fail
  go_ret
  exact ⟨rfl, rfl⟩
set_option maxHeartbeats 2000000 in
set_option maxRecDepth 100000 in
theorem split_w (w : World) (b : Nat) (hs : Sl w (some ⟨b, 0, none⟩) 601 601 b 0 Z) : Calls Try.prog 10 #[.int .i64 3, .slice (some ⟨b, 0, none⟩) 601 601] w fun en w' => ∃ g p c, en = .returned (.tuple #[.slice (some ⟨g, 0, none⟩) 2 2, .int .i64 0]) ∧ w'.cell? ⟨g, 5, none⟩ = some (.int .i64 1) ∧ w'.cell? ⟨g, 6, none⟩ = some (.int .i64 2) ∧ w'.cell? ⟨g, 7, none⟩ = some (.slice p 1 c) ∧ Kept w w' := by
  have s1 : Sl w (some ⟨b, 0, none⟩) 600 601 b 0 Z := hs.cut 600 (by decide)
  have s2 : Sl w (some ⟨b, 600, none⟩) 1 1 b 600 Z := by
    refine ⟨by decide, by decide, ?_, fun _ => rfl, fun i hi => hs.bd i (by omega), ?_⟩
    · intro h; cases h
    · intro i hi
      have := hs.by_ (600 + i) (by omega)
      simpa [Z] using this
  have S1 := Lib.hid s1
  have S2 := Lib.hid s2
  clear s1 s2 hs
  go_enter Try.func10, Try.ntmps10
  go_wp2_with fail
  refine (possible_w _).mono ?_
  rintro e w1 ⟨rfl, rfl⟩
  have mk := mk_pc
  go_wp2_with fail
  refine wp_loop_rounds 3 ?_
  clear mk
  rw [rounds_succ]
  go_wp2_with fail
  refine (clone_s (S1.out.kept ((Kept.refl w).alloc _)) (by decide)).mono ?_
  rintro e w1 ⟨p1, c1, b1, rfl, ho, hk⟩
  obtain ⟨hq, hg⟩ := kcell hk w.heap.size (by simp)
  have hz := hk.size
  have hl : w.heap.size < w1.heap.size := by simp at hz; omega
  have q0 : w1.cell? ⟨w.heap.size, 0, none⟩ = some (.int .i64 0) := by rw [hq]; simp [go_sem]
  have q1 : w1.cell? ⟨w.heap.size, 1, none⟩ = some (.int .i64 0) := by rw [hq]; simp [go_sem]
  have q2 : w1.cell? ⟨w.heap.size, 2, none⟩ = some (.int .i64 0) := by rw [hq]; simp [go_sem]
  have q3 : w1.cell? ⟨w.heap.size, 3, none⟩ = some (.slice none 0 0) := by rw [hq]; simp [go_sem]
  have q4 : w1.cell? ⟨w.heap.size, 4, none⟩ = some (.int .i64 0) := by rw [hq]; simp [go_sem]
  have q5 : w1.cell? ⟨w.heap.size, 5, none⟩ = some (.int .i64 0) := by rw [hq]; simp [go_sem]
  have q6 : w1.cell? ⟨w.heap.size, 6, none⟩ = some (.int .i64 0) := by rw [hq]; simp [go_sem]
  have q7 : w1.cell? ⟨w.heap.size, 7, none⟩ = some (.slice none 0 0) := by rw [hq]; simp [go_sem]
  have f1 : ∀ o, w1.frozen? ⟨w.heap.size, o, none⟩ = false := by intro o; rw [hg]; simp [go_sem]
  have K1 := Lib.hid (((Kept.refl w).alloc _).trans hk)
  clear hk hq hg hz ho S1
  go_wp2_with fail
  rw [rounds_succ]
  go_wp2_with fail
  have K2 : Kept w (((( w1.setCell ⟨w.heap.size, 0, none⟩ (.int .i64 3)).setCell ⟨w.heap.size, 1, none⟩ (.int .i64 0)).setCell ⟨w.heap.size, 2, none⟩ (.int .i64 2)).setCell ⟨w.heap.size, 3, none⟩ (.slice p1 600 c1)) := (((K1.out.setCell (Nat.le_refl _) _).setCell (Nat.le_refl _) _).setCell (Nat.le_refl _) _).setCell (Nat.le_refl _) _
  refine (clone_s (S2.out.kept K2) (by decide)).mono ?_
  rintro e w2 ⟨p2, c2, b2, rfl, ho, hk2⟩
  obtain ⟨hq2, hg2⟩ := kcell hk2 w.heap.size (by simp [World.setCell]; omega)
  have r4 : w2.cell? ⟨w.heap.size, 4, none⟩ = some (.int .i64 0) := by rw [hq2]; simp [go_sem, q4]
  have r5 : w2.cell? ⟨w.heap.size, 5, none⟩ = some (.int .i64 0) := by rw [hq2]; simp [go_sem, q5]
  have r6 : w2.cell? ⟨w.heap.size, 6, none⟩ = some (.int .i64 0) := by rw [hq2]; simp [go_sem, q6]
  have r7 : w2.cell? ⟨w.heap.size, 7, none⟩ = some (.slice none 0 0) := by rw [hq2]; simp [go_sem, q7]
  have f2 : ∀ o, w2.frozen? ⟨w.heap.size, o, none⟩ = false := by intro o; rw [hg2]; simp [go_sem, f1]
  have K3 := Lib.hid (K2.trans hk2)
  clear hk2 hq2 hg2 ho S2 K2 K1 q0 q1 q2 q3 q4 q5 q6 q7 f1
  go_wp2_with fail
  rw [rounds_succ]
  go_wp2_with fail
  exact bodyPost_ret (v := .tuple #[.slice (some ⟨w.heap.size, 0, none⟩) 2 2, .int .i64 0]) (by first | (simp [results, Try.results10, go_sem]; done) | (simp (maxDischargeDepth := 7) [results, Try.results10, go_sem]; done)) rfl ⟨w.heap.size, p2, c2, rfl, by simp [go_sem, r4, r5, r6, r7], by simp [go_sem, r4, r5, r6, r7], by simp [go_sem, r4, r5, r6, r7], (((K3.out.setCell (Nat.le_refl _) _).setCell (Nat.le_refl _) _).setCell (Nat.le_refl _) _).setCell (Nat.le_refl _) _⟩
theorem sl_made (w : World) : Sl (w.alloc (.cells (madeCells #[.int .u8 0] 601) 5)) (some ⟨w.heap.size, 0, none⟩) 601 601 w.heap.size 0 Z := by
  refine ⟨by decide, by decide, ?_, fun _ => rfl, fun i hi => by simp [Z], ?_⟩
  · intro h; cases h
  · intro i hi
    rw [made1, World.cell?_alloc_mark]
    simp [hi, Z]
set_option maxHeartbeats 2000000 in
set_option maxRecDepth 100000 in
theorem awake_w (w : World) : Calls Try.prog 5 #[] w fun en w' => en = .returned (.bool true) ∧ Kept w w' := by
  have d0 := fun w => limit_w 0 0 0 0 0 0 0 (-700) 0 0 0 0 0 0 300 0 0 0 (by omega) (by omega) (by omega) (by omega) (by omega) (by omega) (by omega) (by omega) (by omega) (by omega) (by omega) (by omega) (by omega) (by omega) (by omega) (by omega) (by omega) (by omega) (by omega) (by omega) (by omega) (by omega) (by omega) (by omega) w
  simp only [show tw 0 (-700) 300 = -300 by decide, show tw 0 0 0 = 0 by decide] at d0
  have d1 := fun w => select_w 2 3 (by omega) (by omega) (by omega) (by omega) w
  have d2 := fun w => select_w 1 2 (by omega) (by omega) (by omega) (by omega) w
  simp only [show sel 2 3 = 2 by decide] at d1
  simp only [show sel 1 2 = 0 by decide] at d2
  have mk : ∀ W : World, (Instr.makeSlice 37 (.int .i64 601) (.int .i64 601)).run Try.prog W = .ok (.slice (some ⟨W.heap.size, 0, none⟩) 601 601) (W.alloc (.cells (madeCells #[.int .u8 0] 601) 5)) := fun W => mk_bytes 601 (by omega) W
  go_enter Try.func5, Try.ntmps5
  go_wp2_with fail
  refine (split_w _ w.heap.size (sl_made w)).mono ?_
  rintro e w1 ⟨g, p, c, rfl, q5, q6, q7, hk⟩
  have K1 := Lib.hid (((Kept.refl w).alloc _).trans hk)
  have hg := World.block_lt_of_cell? _ _ q5
  clear hk mk
  go_wp2_with fail
  refine (d0 _).mono ?_
  rintro e w2 ⟨rfl, hk⟩
  obtain ⟨hq, hf⟩ := kcell hk g hg
  have r5 := (hq 5).trans q5
  have r6 := (hq 6).trans q6
  have r7 := (hq 7).trans q7
  have hg2 : g < w2.heap.size := Nat.lt_of_lt_of_le hg hk.size
  have hne : g ≠ w2.heap.size := Nat.ne_of_lt hg2
  have K2 := Lib.hid (K1.out.trans hk)
  clear hk hq hf q5 q6 q7 K1 d0
  go_wp2_with fail
  refine (d1 _).mono ?_
  rintro e w3 ⟨rfl, rfl⟩
  go_wp2_with fail
  refine (d2 _).mono ?_
  rintro e w3 ⟨rfl, rfl⟩
  go_wp2_with fail
  go_ret
  exact ⟨rfl, K2.out.alloc _⟩

end Go.Proofs.Ytbiamcpcmjdogaa
