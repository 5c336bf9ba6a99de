/-
  Own contracts: the chapter's examples of layer 51, with the altitudes of a prediction.
-/
import Derived.Test.YteibanlajbmgnaaVera
import Derived.Laws.AppendOwn
import Derived.LoopTactic
import Derived.WalkKit
import Derived.ProofKit
import Derived.OpenShut
import Derived.WalkLawsBesides
import Derived.WalkSpells
import Derived.Lib.Hide
import Derived.Deep.DeepCutAuto
import Derived.Deep.CutBlock
import Derived.Deep.QuietTactic
import Derived.BigQuiet
import Derived.Handy
import Derived.StillTailTactics
import Derived.IntWalk
import Derived.LoopN
import Derived.Deep.RegionHeld3
namespace Go.Proofs.Yteibanlajbmgnaa
open Go.ChangeShapes Go.WideShapes Go.ChangeAt Go.RowKit
set_option linter.unusedVariables false
set_option linter.unusedSimpArgs false
theorem retb {b : Bool} (h : b = true) : Ending.returned (.bool b) = .returned (.bool true) := by rw [h]
theorem kcell {W w1 : World} (h : Kept W w1) (b : Nat) (hb : b < W.heap.size) : (∀ o, w1.cell? ⟨b, o, none⟩ = W.cell? ⟨b, o, none⟩) ∧ (∀ o, w1.frozen? ⟨b, o, none⟩ = W.frozen? ⟨b, o, none⟩) :=
  ⟨fun o => h.cell (p := ⟨b, o, none⟩) hb, fun o => h.frozen (p := ⟨b, o, none⟩) hb⟩
theorem kuse {W w1 : World} {b : Nat} {G : Prop} (h : Kept W w1) (hb : b < W.heap.size) (g : (∀ o, w1.cell? ⟨b, o, none⟩ = W.cell? ⟨b, o, none⟩) → (∀ o, w1.frozen? ⟨b, o, none⟩ = W.frozen? ⟨b, o, none⟩) → G) : G := g (kcell h b hb).1 (kcell h b hb).2
theorem kfacts {W w1 : World} (h : Kept W w1) : (∀ b o, b < W.heap.size → w1.cell? ⟨b, o, none⟩ = W.cell? ⟨b, o, none⟩) ∧ (∀ b o, b < W.heap.size → w1.frozen? ⟨b, o, none⟩ = W.frozen? ⟨b, o, none⟩) ∧ W.heap.size ≤ w1.heap.size :=
  ⟨fun b o hb => h.cell (p := ⟨b, o, none⟩) hb, fun b o hb => h.frozen (p := ⟨b, o, none⟩) hb, h.size⟩

theorem Kept.grownBy {a b c : World} {row : Option Nat} (h : Kept a b) (g : b.grownBy c row) (hr : ∀ k, row = some k → a.heap.size ≤ k) : Kept a c :=
  ⟨g.os.trans h.os, g.output.trans h.output, Nat.le_trans h.size g.size, fun i hi => (g.block i (Nat.lt_of_lt_of_le hi h.size) (by intro e; have := hr i (by first | exact e | exact e.symm); omega)).trans (h.block i hi)⟩
theorem one_at (w : World) (A : Obj) (x : Value) (t : TypeId) : ∀ j u, [x][j]? = some u → ((w.alloc A).alloc (.cells #[x] t)).cell? ((⟨w.heap.size + 1, 0, none⟩ : Addr).add j) = some u := by
  have h := cell_one_new (w.alloc A) x t
  rwa [show (w.alloc A).heap.size = w.heap.size + 1 from by simp] at h
theorem info2 : (Try.prog.info? 2).map (fun i => (i.zero, i.size, i.bytes)) = some (some (.int .i64 0), 1, 8) := by kernel_rfl
theorem alts_w (P : Nat) (n : Nat) (pz : Nat → Nat → Int) (I J : Int) (sp : Bool) (w : World) (hP : P < w.heap.size) (hn : n ≤ 64)
    (hcells : ∀ k, k < n → (∀ j, j < 12 → w.cell? ⟨P, k * 13 + j, none⟩ = some (.int .i64 (pz k j))) ∧ w.cell? ⟨P, k * 13 + 12, none⟩ = some (.int .u8 (pz k 12))) :
    Calls Try.prog 29 #[.agg #[.slice (some ⟨P, 0, none⟩) n n, .int .i64 I, .int .i64 J, .bool sp]] w fun e w' => ∃ v, e = .returned v ∧ w'.ownsRow w.heap.size 2 1 v n ((List.range n).map fun k => Value.int .i64 (pz k 0)) ∧ Kept w w' := by
  obtain ⟨i0, hi, hz0, hz1, hz2⟩ := info_parts info2
  go_enter Try.func29, Try.ntmps29
  go_wp2_with fail
  go_loopw [3, 9] (fun v i wr => ∃ k : Nat, k ≤ n ∧ i = .int .i64 k ∧ wr.ownsRow w.heap.size 2 1 v k ((List.range k).map fun k => Value.int .i64 (pz k 0)) ∧ Kept w wr) (fun _ i _ => n - (intOf i).toNat)
  case atStart => exact ⟨0, Nat.zero_le _, rfl, World.ownsRow_nil _ _ _ _, (Kept.refl _).alloc _⟩
  case round =>
    obtain ⟨k, hk, rfl, hown, hkept⟩ := hrel
    by_cases hlt : k < n
    · have hsz : w.heap.size ≤ wr.heap.size := hkept.size
      have c0 : wr.cell? ⟨P, k * 13, none⟩ = some (.int .i64 (pz k 0)) := (hkept.cell (p := ⟨P, k * 13, none⟩) hP).trans ((hcells k hlt).1 0 (by decide))
      have c1 : wr.cell? ⟨P, k * 13 + 1, none⟩ = some (.int .i64 (pz k 1)) := (hkept.cell (p := ⟨P, k * 13 + 1, none⟩) hP).trans ((hcells k hlt).1 1 (by decide))
      have c2 : wr.cell? ⟨P, k * 13 + 2, none⟩ = some (.int .i64 (pz k 2)) := (hkept.cell (p := ⟨P, k * 13 + 2, none⟩) hP).trans ((hcells k hlt).1 2 (by decide))
      have c3 : wr.cell? ⟨P, k * 13 + 3, none⟩ = some (.int .i64 (pz k 3)) := (hkept.cell (p := ⟨P, k * 13 + 3, none⟩) hP).trans ((hcells k hlt).1 3 (by decide))
      have c4 : wr.cell? ⟨P, k * 13 + 4, none⟩ = some (.int .i64 (pz k 4)) := (hkept.cell (p := ⟨P, k * 13 + 4, none⟩) hP).trans ((hcells k hlt).1 4 (by decide))
      have c5 : wr.cell? ⟨P, k * 13 + 5, none⟩ = some (.int .i64 (pz k 5)) := (hkept.cell (p := ⟨P, k * 13 + 5, none⟩) hP).trans ((hcells k hlt).1 5 (by decide))
      have c6 : wr.cell? ⟨P, k * 13 + 6, none⟩ = some (.int .i64 (pz k 6)) := (hkept.cell (p := ⟨P, k * 13 + 6, none⟩) hP).trans ((hcells k hlt).1 6 (by decide))
      have c7 : wr.cell? ⟨P, k * 13 + 7, none⟩ = some (.int .i64 (pz k 7)) := (hkept.cell (p := ⟨P, k * 13 + 7, none⟩) hP).trans ((hcells k hlt).1 7 (by decide))
      have c8 : wr.cell? ⟨P, k * 13 + 8, none⟩ = some (.int .i64 (pz k 8)) := (hkept.cell (p := ⟨P, k * 13 + 8, none⟩) hP).trans ((hcells k hlt).1 8 (by decide))
      have c9 : wr.cell? ⟨P, k * 13 + 9, none⟩ = some (.int .i64 (pz k 9)) := (hkept.cell (p := ⟨P, k * 13 + 9, none⟩) hP).trans ((hcells k hlt).1 9 (by decide))
      have c10 : wr.cell? ⟨P, k * 13 + 10, none⟩ = some (.int .i64 (pz k 10)) := (hkept.cell (p := ⟨P, k * 13 + 10, none⟩) hP).trans ((hcells k hlt).1 10 (by decide))
      have c11 : wr.cell? ⟨P, k * 13 + 11, none⟩ = some (.int .i64 (pz k 11)) := (hkept.cell (p := ⟨P, k * 13 + 11, none⟩) hP).trans ((hcells k hlt).1 11 (by decide))
      have c12 : wr.cell? ⟨P, k * 13 + 12, none⟩ = some (.int .u8 (pz k 12)) := (hkept.cell (p := ⟨P, k * 13 + 12, none⟩) hP).trans ((hcells k hlt).2)
      clear hcells
      have hlen : ((List.range k).map fun k => Value.int .i64 (pz k 0)).length = k := by simp
      go_wp2_with (at_builtin; (refine wpList_append_own _ rfl _ _ 42 rfl w.heap.size 2 i0 (.int .i64 0) 1 8 Try.underlying42 hi hz0 hz1 hz2 rfl (by decide) _ _ _ rfl ((hown.alloc _).alloc _) ⟨wr.heap.size + 1, 0, none⟩ 1 1 [.int .i64 (pz k 0)] rfl rfl (one_at _ _ _ _) ?c2 ?c3 ?c4 ?c5 ?_); (case c2 => simp [Value.oneCell']); (case c3 => unfold maxLen; omega); (case c4 => omega); (case c5 => simp; omega); intro v' w1 hown' hgrow _)
      have hK : Kept w w1 := ((hkept.alloc _).alloc _).grownBy hgrow (fun q hq => (hown.lt q hq).1)
      clear c0 c1 c2 c3 c4 c5 c6 c7 c8 c9 c10 c11 c12 hgrow
      exact ⟨⟨k + 1, by omega, by go_num, by rw [List.range_succ, List.map_append]; exact hown', hK⟩, by simp [intOf]; omega⟩
    · obtain rfl : k = n := by omega
      go_wp2_with fail
      go_ret
      exact ⟨_, rfl, hown, hkept⟩
theorem bounded_w (v : Int) (h0 : -1099511627776 ≤ v) (h1 : v ≤ 1099511627776) (w : World) : Calls Try.prog 36 #[.int .i64 v] w fun e w' => e = .returned (.bool true) ∧ w = w' := by
  go_enter Try.func36, Try.ntmps36
  go_wp2
  go_ret
  exact ⟨rfl, rfl⟩
theorem check3 (g d cap : Nat) (x0 x1 x2 d0 d1 : Int) (w : World) (hx0 : -1099511627776 ≤ x0) (hx0u : x0 ≤ 1099511627776) (hx1 : -1099511627776 ≤ x1) (hx1u : x1 ≤ 1099511627776) (hx2 : -1099511627776 ≤ x2) (hx2u : x2 ≤ 1099511627776) (hd0 : 0 ≤ d0) (hd0u : d0 ≤ 8000000) (hd1 : 0 ≤ d1) (hd1u : d1 ≤ 8000000) (c0 : w.cell? ⟨g, 0, none⟩ = some (.int .i64 x0)) (c1 : w.cell? ⟨g, 1, none⟩ = some (.int .i64 x1)) (c2 : w.cell? ⟨g, 2, none⟩ = some (.int .i64 x2)) (e0 : w.cell? ⟨d, 0, none⟩ = some (.int .i64 d0)) (e1 : w.cell? ⟨d, 1, none⟩ = some (.int .i64 d1)) :
    Calls Try.prog 33 #[.slice (some ⟨g, 0, none⟩) 3 cap, .slice (some ⟨d, 0, none⟩) 2 2] w fun e w' => e = .returned (.int .i64 0) ∧ w = w' := by
  go_enter Try.func33, Try.ntmps33
  go_wp2_with fail
  refine wp_loop_rounds 4 ?_
  repeat (rw [rounds_succ]; go_wp2_with (first | (go_at_call 36; refine (bounded_w _ (by omega) (by omega) _).mono ?_; rintro e w' ⟨rfl, rfl⟩)))
  refine wp_loop_rounds 3 ?_
  repeat (rw [rounds_succ]; go_wp2_with (first | (go_at_call 36; refine (bounded_w _ (by omega) (by omega) _).mono ?_; rintro e w' ⟨rfl, rfl⟩)))
  go_ret
  exact ⟨rfl, rfl⟩
theorem mul_ok (a b c v : Int) (a0 : -9223372036854775808 ≤ a) (a1 : a ≤ 9223372036854775807) (b0 : -9223372036854775808 ≤ b) (b1 : b ≤ 9223372036854775807) (c0 : -9223372036854775808 ≤ c) (c1 : c ≤ 9223372036854775807) (hv : Hid (mqv 0 a b c = v)) (he : Hid (mqe 0 a b c = 0)) (w : World) : Calls Try.prog 30 #[.int .i64 a, .int .i64 b, .int .i64 c] w fun e w' => e = .returned (.tuple #[.int .i64 v, .int .i64 0]) ∧ Dr w w' := by
  have h := muldiv_w a b c a0 a1 b0 b1 c0 c1 w
  rwa [hv.out, he.out] at h
theorem betw_w (w : World) : Calls Try.prog 34 #[.int .i64 0, .int .i64 1000, .int .i64 3000, .int .i64 6000] w fun e w' => e = .returned (.int .i64 500) ∧ Dr w w' := by
  have hv : Hid (mqv 0 1000 3000 6000 = 500) := Lib.hid (by decide +kernel)
  have he : Hid (mqe 0 1000 3000 6000 = 0) := Lib.hid (by decide +kernel)
  go_enter Try.func34, Try.ntmps34
  go_wp2_with (go_at_call 30; refine (mul_ok _ _ _ _ (by omega) (by omega) (by omega) (by omega) (by omega) (by omega) hv he _).mono ?_; rintro e w' ⟨rfl, hd⟩)
  go_ret
  exact ⟨rfl, hd⟩
theorem between1 (g d cap : Nat) (w : World) (c0 : w.cell? ⟨g, 0, none⟩ = some (.int .i64 0)) (c1 : w.cell? ⟨g, 1, none⟩ = some (.int .i64 1000)) (c2 : w.cell? ⟨g, 2, none⟩ = some (.int .i64 1000)) (e0 : w.cell? ⟨d, 0, none⟩ = some (.int .i64 6000)) (e1 : w.cell? ⟨d, 1, none⟩ = some (.int .i64 6000)) :
    Calls Try.prog 28 #[.slice (some ⟨g, 0, none⟩) 3 cap, .slice (some ⟨d, 0, none⟩) 2 2, .int .i64 3000] w fun e w' => e = .returned (.tuple #[.int .i64 500, .int .i64 0]) ∧ Dr w w' := by
  go_enter Try.func28, Try.ntmps28
  go_wp2_with (first | (go_at_call 33; refine (check3 g d cap 0 1000 1000 6000 6000 _ (by omega) (by omega) (by omega) (by omega) (by omega) (by omega) (by omega) (by omega) (by omega) (by omega) c0 c1 c2 e0 e1).mono ?_; rintro e w' ⟨rfl, rfl⟩))
  refine wp_loop_rounds 2 ?_
  repeat (rw [rounds_succ]; go_wp2)
  go_quiet ((go_at_call 34; first | exact quiet_dr (betw_w _) | exact quiet_dr_add (betw_w _)))
  go_wp2
  go_ret2
  exact ⟨rfl, ⟨_, rfl⟩⟩
theorem between2 (g d cap : Nat) (w : World) (c0 : w.cell? ⟨g, 0, none⟩ = some (.int .i64 0)) (c1 : w.cell? ⟨g, 1, none⟩ = some (.int .i64 1000)) (c2 : w.cell? ⟨g, 2, none⟩ = some (.int .i64 1000)) (e0 : w.cell? ⟨d, 0, none⟩ = some (.int .i64 6000)) (e1 : w.cell? ⟨d, 1, none⟩ = some (.int .i64 6000)) :
    Calls Try.prog 28 #[.slice (some ⟨g, 0, none⟩) 3 cap, .slice (some ⟨d, 0, none⟩) 2 2, .int .i64 6000] w fun e w' => e = .returned (.tuple #[.int .i64 1000, .int .i64 0]) ∧ Dr w w' := by
  go_enter Try.func28, Try.ntmps28
  go_wp2_with (first | (go_at_call 33; refine (check3 g d cap 0 1000 1000 6000 6000 _ (by omega) (by omega) (by omega) (by omega) (by omega) (by omega) (by omega) (by omega) (by omega) (by omega) c0 c1 c2 e0 e1).mono ?_; rintro e w' ⟨rfl, rfl⟩))
  refine wp_loop_rounds 3 ?_
  repeat (rw [rounds_succ]; go_wp2)
  go_ret2
  exact ⟨rfl, Dr.refl _⟩
end Go.Proofs.Yteibanlajbmgnaa
