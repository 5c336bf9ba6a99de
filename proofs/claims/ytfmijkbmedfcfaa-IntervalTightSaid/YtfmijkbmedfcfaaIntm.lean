/-
  Own contracts: package interval: products.
-/
import Derived.Test.YtfmijkbmedfcfaaIntw
import Derived.LoopTactic
import Derived.WalkKit
import Derived.ProofKit
import Derived.OpenShut
import Derived.WalkLawsBesides
import Derived.WalkSpells
import Derived.Lib.Hide
import Derived.Deep.DeepCutAuto
import Derived.Deep.CutBlock
import Derived.Deep.QuietTactic
import Derived.BigQuiet
import Derived.Handy
import Derived.StillTailTactics
import Derived.IntWalk
import Derived.LoopN
import Derived.Deep.RegionHeld3
namespace Go.Proofs.Ytfmijkbmedfcfaa
open Go.ChangeShapes Go.WideShapes Go.ChangeAt Go.RowKit
set_option linter.unusedVariables false
set_option linter.unusedSimpArgs false

theorem wmul_v (a b v : Int) (a_0 : -9223372036854775808 ≤ a) (a_1 : a ≤ 9223372036854775807) (b_0 : -9223372036854775808 ≤ b) (b_1 : b ≤ 9223372036854775807) (h : Hid (a * b = v)) (w : World) : Calls Try.prog 8 #[.int .i64 a, .int .i64 b] w fun en w' => en = .returned (.agg #[.int .i64 (wh v), .int .u64 (wl v)]) ∧ Kept w w' := by
  have := wmul_w a b a_0 a_1 b_0 b_1 w
  rwa [h.out] at this
structure Wd (B : Nat) (W : World) (v : Int) : Prop where
  c0 : W.cell? ⟨B, 0, none⟩ = some (.int .i64 (wh v))
  c1 : W.cell? ⟨B, 1, none⟩ = some (.int .u64 (wl v))
  fr : ∀ o, W.frozen? ⟨B, o, none⟩ = false
  sz : B < W.heap.size
theorem Wd.kept {B : Nat} {W W' : World} {v : Int} (h : Wd B W v) (hk : Kept W W') : Wd B W' v :=
  ⟨(hk.cell (p := ⟨B, 0, none⟩) h.sz).trans h.c0, (hk.cell (p := ⟨B, 1, none⟩) h.sz).trans h.c1, fun o => (hk.frozen (p := ⟨B, o, none⟩) h.sz).trans (h.fr o), Nat.lt_of_lt_of_le h.sz hk.size⟩
theorem Wd.store {B : Nat} {W : World} {v : Int} (h : Wd B W v) (u : Int) : Wd B ((W.setCell ⟨B, 0, none⟩ (.int .i64 (wh u))).setCell ⟨B, 1, none⟩ (.int .u64 (wl u))) u := by
  obtain ⟨c0, c1, fr, sz⟩ := h
  exact ⟨by simp [go_sem, *], by simp [go_sem, *], by intro o; simp [go_sem, *], by simp; exact sz⟩
theorem Wd.far {B C : Nat} {W : World} {v : Int} (h : Wd B W v) (hne : ¬ B = C) (u1 u2 : Value) : Wd B ((W.setCell ⟨C, 0, none⟩ u1).setCell ⟨C, 1, none⟩ u2) v := by
  obtain ⟨c0, c1, fr, sz⟩ := h
  have hne' : ¬ C = B := fun e => hne e.symm
  exact ⟨by simp [go_sem, *, World.cell?_setCell_far], by simp [go_sem, *, World.cell?_setCell_far], by intro o; simp [go_sem, *], by simp; exact sz⟩
def MM (v0 v1 v2 v3 K L G : Int) : Prop := (K = 0 ∧ L = v0 ∧ G = v0) ∨ (K = 1 ∧ L = min v0 v1 ∧ G = max v0 v1) ∨ (K = 2 ∧ L = min (min v0 v1) v2 ∧ G = max (max v0 v1) v2) ∨ (K = 3 ∧ L = min (min (min v0 v1) v2) v3 ∧ G = max (max (max v0 v1) v2) v3)
theorem wd_new (w1 : World) (v : Int) (T : TypeId) : Wd w1.heap.size ((w1.alloc (.cells #[.int .i64 (wh v), .int .u64 (wl v)] T)).alloc (.cells #[.int .i64 (wh v), .int .u64 (wl v)] T)) v ∧ Wd (w1.heap.size + 1) ((w1.alloc (.cells #[.int .i64 (wh v), .int .u64 (wl v)] T)).alloc (.cells #[.int .i64 (wh v), .int .u64 (wl v)] T)) v :=
  ⟨⟨by simp [go_sem], by simp [go_sem], by intro o; simp [go_sem], by simp; omega⟩, ⟨by simp [go_sem], by simp [go_sem], by intro o; simp [go_sem], by simp⟩⟩
theorem cmp_ge (u v : Int) (h : v ≤ u) (w : World) : Calls Try.prog 17 #[.agg #[.int .i64 (wh u), .int .u64 (wl u)], .agg #[.int .i64 (wh v), .int .u64 (wl v)]] w fun en w' => ∃ r : Int, (0 ≤ r ∧ r ≤ 1) ∧ en = .returned (.int .i64 r) ∧ Kept w w' := by
  by_cases e : u = v
  · subst e; exact (cmp_eq u w).mono fun en w' ⟨h1, h2⟩ => ⟨0, by omega, h1, h2⟩
  · exact (cmp_gt u v (by omega) w).mono fun en w' ⟨h1, h2⟩ => ⟨1, by omega, h1, h2⟩
theorem cmp_le (u v : Int) (h : u ≤ v) (w : World) : Calls Try.prog 17 #[.agg #[.int .i64 (wh u), .int .u64 (wl u)], .agg #[.int .i64 (wh v), .int .u64 (wl v)]] w fun en w' => ∃ r : Int, (-1 ≤ r ∧ r ≤ 0) ∧ en = .returned (.int .i64 r) ∧ Kept w w' := by
  by_cases e : u = v
  · subst e; exact (cmp_eq u w).mono fun en w' ⟨h1, h2⟩ => ⟨0, by omega, h1, h2⟩
  · exact (cmp_lt u v (by omega) w).mono fun en w' ⟨h1, h2⟩ => ⟨-1, by omega, h1, h2⟩
set_option maxHeartbeats 4000000 in
set_option maxRecDepth 100000 in
theorem imul_ok (a b c d v0 v1 v2 v3 l g : Int) (x1 : a ≤ b) (x2 : -4611686018427387904 ≤ a) (x3 : b ≤ 4611686018427387904) (y1 : c ≤ d) (y2 : -4611686018427387904 ≤ c) (y3 : d ≤ 4611686018427387904) (e0 : Hid (a * c = v0)) (e1 : Hid (a * d = v1)) (e2 : Hid (b * c = v2)) (e3 : Hid (b * d = v3)) (zl : Hid (l = min (min (min v0 v1) v2) v3)) (zg : Hid (g = max (max (max v0 v1) v2) v3)) (lm : -4611686018427387904 ≤ l) (gm : g ≤ 4611686018427387904) (w : World) : Calls Try.prog 6 #[.agg #[.int .i64 a, .int .i64 b], .agg #[.int .i64 c, .int .i64 d]] w fun en w' => en = .returned (.tuple #[.agg #[.int .i64 l, .int .i64 g], .int .i64 0]) ∧ Kept w w' := by
  have ix0 : ∀ w, (Instr.index 39 (.agg #[.int .i64 (wh v1), .int .u64 (wl v1), .int .i64 (wh v2), .int .u64 (wl v2), .int .i64 (wh v3), .int .u64 (wl v3)]) (.int .i64 0)).run Try.prog w = .ok (.agg #[.int .i64 (wh v1), .int .u64 (wl v1)]) w := fun _ => by kernel_rfl
  have ix1 : ∀ w, (Instr.index 39 (.agg #[.int .i64 (wh v1), .int .u64 (wl v1), .int .i64 (wh v2), .int .u64 (wl v2), .int .i64 (wh v3), .int .u64 (wl v3)]) (.int .i64 1)).run Try.prog w = .ok (.agg #[.int .i64 (wh v2), .int .u64 (wl v2)]) w := fun _ => by kernel_rfl
  have ix2 : ∀ w, (Instr.index 39 (.agg #[.int .i64 (wh v1), .int .u64 (wl v1), .int .i64 (wh v2), .int .u64 (wl v2), .int .i64 (wh v3), .int .u64 (wl v3)]) (.int .i64 2)).run Try.prog w = .ok (.agg #[.int .i64 (wh v3), .int .u64 (wl v3)]) w := fun _ => by kernel_rfl
  go_enter Try.func6, Try.ntmps6
  go_wp2_with (first | (go_at_call 14; (first | refine (valid_ok _ _ (by omega) (by omega) (by omega) _).mono ?_ | refine (valid_bad _ _ (by omega) _).mono ?_); rintro e w' ⟨rfl, hk⟩; have hz := hk.size; (try (refine kuse (b := w.heap.size) hk (by first | (simp; done) | (simp; omega) | omega) ?_; intro hq0 hg0)); (try (have hy0 : w.heap.size < w'.heap.size := by (try simp at hz); omega)); (try (refine kuse (b := w.heap.size + 1) hk (by first | (simp; done) | (simp; omega) | omega) ?_; intro hq1 hg1)); (try (have hy1 : w.heap.size + 1 < w'.heap.size := by (try simp at hz); omega)); (try (refine kuse (b := w.heap.size + 2) hk (by first | (simp; done) | (simp; omega) | omega) ?_; intro hq2 hg2)); (try (have hy2 : w.heap.size + 2 < w'.heap.size := by (try simp at hz); omega)); (try (refine withF (p := w'.cell? ⟨w.heap.size, 0, none⟩ = some (.int .i64 a)) (by first | (simp (maxDischargeDepth := 7) [go_sem, hq0]; done) | fail) ?_; intro ff00; refine withF (p := w'.cell? ⟨w.heap.size, 1, none⟩ = some (.int .i64 b)) (by first | (simp (maxDischargeDepth := 7) [go_sem, hq0]; done) | fail) ?_; intro ff01; refine withF (p := ∀ o, w'.frozen? ⟨w.heap.size, o, none⟩ = false) (by first | (intro o; simp (maxDischargeDepth := 7) [go_sem, hg0]; done) | fail) ?_; intro fg0; clear hq0 hg0)); (try (refine withF (p := w'.cell? ⟨w.heap.size + 1, 0, none⟩ = some (.int .i64 c)) (by first | (simp (maxDischargeDepth := 7) [go_sem, hq1]; done) | fail) ?_; intro ff10; refine withF (p := w'.cell? ⟨w.heap.size + 1, 1, none⟩ = some (.int .i64 d)) (by first | (simp (maxDischargeDepth := 7) [go_sem, hq1]; done) | fail) ?_; intro ff11; refine withF (p := ∀ o, w'.frozen? ⟨w.heap.size + 1, o, none⟩ = false) (by first | (intro o; simp (maxDischargeDepth := 7) [go_sem, hg1]; done) | fail) ?_; intro fg1; clear hq1 hg1)); (try (refine withF (p := w'.cell? ⟨w.heap.size + 2, 0, none⟩ = some (.int .i64 0)) (by first | (simp (maxDischargeDepth := 7) [go_sem, hq2]; done) | fail) ?_; intro ff20; refine withF (p := w'.cell? ⟨w.heap.size + 2, 1, none⟩ = some (.int .i64 0)) (by first | (simp (maxDischargeDepth := 7) [go_sem, hq2]; done) | fail) ?_; intro ff21; refine withF (p := ∀ o, w'.frozen? ⟨w.heap.size + 2, o, none⟩ = false) (by first | (intro o; simp (maxDischargeDepth := 7) [go_sem, hg2]; done) | fail) ?_; intro fg2; clear hq2 hg2))))
  refine (wmul_v a c v0 (by omega) (by omega) (by omega) (by omega) e0 _).mono ?_
  rintro e w1 ⟨rfl, hk1⟩
  refine kuse (b := w.heap.size) hk1 (by first | (simp; done) | (simp; omega) | omega) ?_
  intro gaw1_0 gbw1_0
  have gzw1_0 : w.heap.size < w1.heap.size := by have := hk1.size; (try simp at this); omega
  refine kuse (b := w.heap.size + 1) hk1 (by first | (simp; done) | (simp; omega) | omega) ?_
  intro gaw1_1 gbw1_1
  have gzw1_1 : w.heap.size + 1 < w1.heap.size := by have := hk1.size; (try simp at this); omega
  refine kuse (b := w.heap.size + 2) hk1 (by first | (simp; done) | (simp; omega) | omega) ?_
  intro gaw1_2 gbw1_2
  have gzw1_2 : w.heap.size + 2 < w1.heap.size := by have := hk1.size; (try simp at this); omega
  go_wp2_with fail
  first | (go_region_held3 (fun W => W.cell? ⟨w.heap.size, 0, none⟩ = some (.int .i64 a) ∧ W.cell? ⟨w.heap.size, 1, none⟩ = some (.int .i64 b) ∧ W.cell? ⟨w.heap.size + 1, 0, none⟩ = some (.int .i64 c) ∧ W.cell? ⟨w.heap.size + 1, 1, none⟩ = some (.int .i64 d)) (go_keep) (first | (go_at_call 8; with_reducible refine (wmul_v a d v1 (by omega) (by omega) (by omega) (by omega) e1 _).mono ?_; rintro e w' ⟨rfl, hk⟩; refine kuse (b := w.heap.size) hk (by first | (simp; done) | (simp; omega) | omega) ?_; intro hq0 hg0; have hy0 : w.heap.size < w'.heap.size := (by have := hk.size; (try simp at this); omega); refine kuse (b := w.heap.size + 1) hk (by first | (simp; done) | (simp; omega) | omega) ?_; intro hq1 hg1; have hy1 : w.heap.size + 1 < w'.heap.size := (by have := hk.size; (try simp at this); omega); refine kuse (b := w.heap.size + 2) hk (by first | (simp; done) | (simp; omega) | omega) ?_; intro hq2 hg2; refine kuse (b := w1.heap.size) hk (by first | (simp; done) | (simp; omega) | omega) ?_; intro hq3 hg3; have hy3 : w1.heap.size < w'.heap.size := (by have := hk.size; (try simp at this); omega); refine kuse (b := w1.heap.size + 1) hk (by first | (simp; done) | (simp; omega) | omega) ?_; intro hq4 hg4; have hy4 : w1.heap.size + 1 < w'.heap.size := (by have := hk.size; (try simp at this); omega)) | (go_at_call 8; with_reducible refine (wmul_v b c v2 (by omega) (by omega) (by omega) (by omega) e2 _).mono ?_; rintro e w' ⟨rfl, hk⟩; refine kuse (b := w.heap.size) hk (by first | (simp; done) | (simp; omega) | omega) ?_; intro hq0 hg0; have hy0 : w.heap.size < w'.heap.size := (by have := hk.size; (try simp at this); omega); refine kuse (b := w.heap.size + 1) hk (by first | (simp; done) | (simp; omega) | omega) ?_; intro hq1 hg1; have hy1 : w.heap.size + 1 < w'.heap.size := (by have := hk.size; (try simp at this); omega); refine kuse (b := w.heap.size + 2) hk (by first | (simp; done) | (simp; omega) | omega) ?_; intro hq2 hg2; refine kuse (b := w1.heap.size) hk (by first | (simp; done) | (simp; omega) | omega) ?_; intro hq3 hg3; have hy3 : w1.heap.size < w'.heap.size := (by have := hk.size; (try simp at this); omega); refine kuse (b := w1.heap.size + 1) hk (by first | (simp; done) | (simp; omega) | omega) ?_; intro hq4 hg4; have hy4 : w1.heap.size + 1 < w'.heap.size := (by have := hk.size; (try simp at this); omega)) | (go_at_call 8; with_reducible refine (wmul_v b d v3 (by omega) (by omega) (by omega) (by omega) e3 _).mono ?_; rintro e w' ⟨rfl, hk⟩; refine kuse (b := w.heap.size) hk (by first | (simp; done) | (simp; omega) | omega) ?_; intro hq0 hg0; have hy0 : w.heap.size < w'.heap.size := (by have := hk.size; (try simp at this); omega); refine kuse (b := w.heap.size + 1) hk (by first | (simp; done) | (simp; omega) | omega) ?_; intro hq1 hg1; have hy1 : w.heap.size + 1 < w'.heap.size := (by have := hk.size; (try simp at this); omega); refine kuse (b := w.heap.size + 2) hk (by first | (simp; done) | (simp; omega) | omega) ?_; intro hq2 hg2; refine kuse (b := w1.heap.size) hk (by first | (simp; done) | (simp; omega) | omega) ?_; intro hq3 hg3; have hy3 : w1.heap.size < w'.heap.size := (by have := hk.size; (try simp at this); omega); refine kuse (b := w1.heap.size + 1) hk (by first | (simp; done) | (simp; omega) | omega) ?_; intro hq4 hg4; have hy4 : w1.heap.size + 1 < w'.heap.size := (by have := hk.size; (try simp at this); omega)))) | fail
  all_goals go_wp2_with fail
  have HN := Lib.hid (wd_new w1 v0 30)
  go_loopw [45] (fun i wr => ∃ K L G : Int, i = .int .i64 K ∧ MM v0 v1 v2 v3 K L G ∧ Kept w1 wr ∧ Wd (w1.heap.size) wr L ∧ Wd (w1.heap.size + 1) wr G) (fun i _ => (4 - intOf i).toNat)
  case atStart => exact ⟨0, v0, v0, rfl, Or.inl ⟨rfl, rfl, rfl⟩, (by repeat (first | with_reducible exact Kept.refl _ | with_reducible assumption | with_reducible refine Kept.setCell ?_ (by first | (simp; done) | (simp; omega) | omega) _ | with_reducible refine Kept.alloc ?_ _ | with_reducible refine Kept.drewN ?_ _ | with_reducible refine Kept.drew ?_ | with_reducible refine Kept.trans ?_ (by with_reducible assumption) | with_reducible refine Kept.dr ?_ (by with_reducible assumption))), Wd.kept HN.out.1 (by repeat (first | with_reducible exact Kept.refl _ | with_reducible assumption | with_reducible refine Kept.setCell ?_ (by first | (simp; done) | (simp; omega) | omega) _ | with_reducible refine Kept.alloc ?_ _ | with_reducible refine Kept.drewN ?_ _ | with_reducible refine Kept.drew ?_ | with_reducible refine Kept.trans ?_ (by with_reducible assumption) | with_reducible refine Kept.dr ?_ (by with_reducible assumption))), Wd.kept HN.out.2 (by repeat (first | with_reducible exact Kept.refl _ | with_reducible assumption | with_reducible refine Kept.setCell ?_ (by first | (simp; done) | (simp; omega) | omega) _ | with_reducible refine Kept.alloc ?_ _ | with_reducible refine Kept.drewN ?_ _ | with_reducible refine Kept.drew ?_ | with_reducible refine Kept.trans ?_ (by with_reducible assumption) | with_reducible refine Kept.dr ?_ (by with_reducible assumption)))⟩
  case round =>
    obtain ⟨K, L, G, rfl, hMM, hkw, hL, hG⟩ := hrel
    have HL := hL
    have HG := hG
    obtain ⟨l0, l1, lf, ls⟩ := hL
    obtain ⟨g0, g1, gf, gs⟩ := hG
    have hsz := hkw.size
    rcases hMM with ⟨rfl, hl, hg⟩ | ⟨rfl, hl, hg⟩ | ⟨rfl, hl, hg⟩ | ⟨rfl, hl, hg⟩
    · have ord : L ≤ G := by omega
      have Hl := Lib.hid hl
      have Hg := Lib.hid hg
      clear hl hg
      by_cases lt : v1 < L
      · go_wp2_with fail
        refine (cmp_lt v1 L lt _).mono ?_
        rintro e wa ⟨rfl, hkwa⟩
        refine kuse (b := w1.heap.size) hkwa (by first | (simp; done) | (simp; omega) | omega) ?_
        intro gawa_0 gbwa_0
        have gzwa_0 : w1.heap.size < wa.heap.size := by have := hkwa.size; (try simp at this); omega
        refine kuse (b := w1.heap.size + 1) hkwa (by first | (simp; done) | (simp; omega) | omega) ?_
        intro gawa_1 gbwa_1
        have gzwa_1 : w1.heap.size + 1 < wa.heap.size := by have := hkwa.size; (try simp at this); omega
        refine kuse (b := wr.heap.size) hkwa (by first | (simp; done) | (simp; omega) | omega) ?_
        intro gawa_2 gbwa_2
        have gzwa_2 : wr.heap.size < wa.heap.size := by have := hkwa.size; (try simp at this); omega
        go_wp2_with fail
        refine (cmp_lt v1 G (by omega) _).mono ?_
        rintro e wb ⟨rfl, hkwb⟩
        refine kuse (b := w1.heap.size) hkwb (by first | (simp; done) | (simp; omega) | omega) ?_
        intro gawb_0 gbwb_0
        have gzwb_0 : w1.heap.size < wb.heap.size := by have := hkwb.size; (try simp at this); omega
        refine kuse (b := w1.heap.size + 1) hkwb (by first | (simp; done) | (simp; omega) | omega) ?_
        intro gawb_1 gbwb_1
        have gzwb_1 : w1.heap.size + 1 < wb.heap.size := by have := hkwb.size; (try simp at this); omega
        refine kuse (b := wr.heap.size) hkwb (by first | (simp; done) | (simp; omega) | omega) ?_
        intro gawb_2 gbwb_2
        have gzwb_2 : wr.heap.size < wb.heap.size := by have := hkwb.size; (try simp at this); omega
        go_wp2_with fail
        exact ⟨⟨1, v1, G, by first | rfl | go_num, Or.inr (Or.inl ⟨rfl, by have := Hl.out; have := Hg.out; omega, by have := Hl.out; have := Hg.out; omega⟩), (by repeat (first | with_reducible exact Kept.refl _ | with_reducible assumption | with_reducible refine Kept.setCell ?_ (by first | (simp; done) | (simp; omega) | omega) _ | with_reducible refine Kept.alloc ?_ _ | with_reducible refine Kept.drewN ?_ _ | with_reducible refine Kept.drew ?_ | with_reducible refine Kept.trans ?_ (by with_reducible assumption) | with_reducible refine Kept.dr ?_ (by with_reducible assumption))), (by repeat (first | with_reducible assumption | with_reducible refine Wd.store (v := L) ?_ _ | with_reducible refine Wd.far ?_ (by omega) _ _ | with_reducible refine Wd.kept ?_ ((Kept.refl _).alloc _) | with_reducible refine Wd.kept ?_ ((Kept.refl _).drew) | with_reducible refine Wd.kept ?_ ((Kept.refl _).drewN _) | with_reducible refine Wd.kept ?_ (by with_reducible assumption))), (by repeat (first | with_reducible assumption | with_reducible refine Wd.store (v := G) ?_ _ | with_reducible refine Wd.far ?_ (by omega) _ _ | with_reducible refine Wd.kept ?_ ((Kept.refl _).alloc _) | with_reducible refine Wd.kept ?_ ((Kept.refl _).drew) | with_reducible refine Wd.kept ?_ ((Kept.refl _).drewN _) | with_reducible refine Wd.kept ?_ (by with_reducible assumption)))⟩, by simp [intOf]⟩
      by_cases gt : G < v1
      · go_wp2_with fail
        refine (cmp_gt v1 L (by omega) _).mono ?_
        rintro e wa ⟨rfl, hkwa⟩
        refine kuse (b := w1.heap.size) hkwa (by first | (simp; done) | (simp; omega) | omega) ?_
        intro gawa_0 gbwa_0
        have gzwa_0 : w1.heap.size < wa.heap.size := by have := hkwa.size; (try simp at this); omega
        refine kuse (b := w1.heap.size + 1) hkwa (by first | (simp; done) | (simp; omega) | omega) ?_
        intro gawa_1 gbwa_1
        have gzwa_1 : w1.heap.size + 1 < wa.heap.size := by have := hkwa.size; (try simp at this); omega
        refine kuse (b := wr.heap.size) hkwa (by first | (simp; done) | (simp; omega) | omega) ?_
        intro gawa_2 gbwa_2
        have gzwa_2 : wr.heap.size < wa.heap.size := by have := hkwa.size; (try simp at this); omega
        go_wp2_with fail
        refine (cmp_gt v1 G gt _).mono ?_
        rintro e wb ⟨rfl, hkwb⟩
        refine kuse (b := w1.heap.size) hkwb (by first | (simp; done) | (simp; omega) | omega) ?_
        intro gawb_0 gbwb_0
        have gzwb_0 : w1.heap.size < wb.heap.size := by have := hkwb.size; (try simp at this); omega
        refine kuse (b := w1.heap.size + 1) hkwb (by first | (simp; done) | (simp; omega) | omega) ?_
        intro gawb_1 gbwb_1
        have gzwb_1 : w1.heap.size + 1 < wb.heap.size := by have := hkwb.size; (try simp at this); omega
        refine kuse (b := wr.heap.size) hkwb (by first | (simp; done) | (simp; omega) | omega) ?_
        intro gawb_2 gbwb_2
        have gzwb_2 : wr.heap.size < wb.heap.size := by have := hkwb.size; (try simp at this); omega
        go_wp2_with fail
        exact ⟨⟨1, L, v1, by first | rfl | go_num, Or.inr (Or.inl ⟨rfl, by have := Hl.out; have := Hg.out; omega, by have := Hl.out; have := Hg.out; omega⟩), (by repeat (first | with_reducible exact Kept.refl _ | with_reducible assumption | with_reducible refine Kept.setCell ?_ (by first | (simp; done) | (simp; omega) | omega) _ | with_reducible refine Kept.alloc ?_ _ | with_reducible refine Kept.drewN ?_ _ | with_reducible refine Kept.drew ?_ | with_reducible refine Kept.trans ?_ (by with_reducible assumption) | with_reducible refine Kept.dr ?_ (by with_reducible assumption))), (by repeat (first | with_reducible assumption | with_reducible refine Wd.store (v := L) ?_ _ | with_reducible refine Wd.far ?_ (by omega) _ _ | with_reducible refine Wd.kept ?_ ((Kept.refl _).alloc _) | with_reducible refine Wd.kept ?_ ((Kept.refl _).drew) | with_reducible refine Wd.kept ?_ ((Kept.refl _).drewN _) | with_reducible refine Wd.kept ?_ (by with_reducible assumption))), (by repeat (first | with_reducible assumption | with_reducible refine Wd.store (v := G) ?_ _ | with_reducible refine Wd.far ?_ (by omega) _ _ | with_reducible refine Wd.kept ?_ ((Kept.refl _).alloc _) | with_reducible refine Wd.kept ?_ ((Kept.refl _).drew) | with_reducible refine Wd.kept ?_ ((Kept.refl _).drewN _) | with_reducible refine Wd.kept ?_ (by with_reducible assumption)))⟩, by simp [intOf]⟩
      go_wp2_with fail
      refine (cmp_ge v1 L (by omega) _).mono ?_
      rintro e wa ⟨r_wa, ⟨q_wa0, q_wa1⟩, rfl, hkwa⟩
      refine kuse (b := w1.heap.size) hkwa (by first | (simp; done) | (simp; omega) | omega) ?_
      intro gawa_0 gbwa_0
      have gzwa_0 : w1.heap.size < wa.heap.size := by have := hkwa.size; (try simp at this); omega
      refine kuse (b := w1.heap.size + 1) hkwa (by first | (simp; done) | (simp; omega) | omega) ?_
      intro gawa_1 gbwa_1
      have gzwa_1 : w1.heap.size + 1 < wa.heap.size := by have := hkwa.size; (try simp at this); omega
      refine kuse (b := wr.heap.size) hkwa (by first | (simp; done) | (simp; omega) | omega) ?_
      intro gawa_2 gbwa_2
      have gzwa_2 : wr.heap.size < wa.heap.size := by have := hkwa.size; (try simp at this); omega
      go_wp2_with fail
      refine (cmp_le v1 G (by omega) _).mono ?_
      rintro e wb ⟨r_wb, ⟨q_wb0, q_wb1⟩, rfl, hkwb⟩
      refine kuse (b := w1.heap.size) hkwb (by first | (simp; done) | (simp; omega) | omega) ?_
      intro gawb_0 gbwb_0
      have gzwb_0 : w1.heap.size < wb.heap.size := by have := hkwb.size; (try simp at this); omega
      refine kuse (b := w1.heap.size + 1) hkwb (by first | (simp; done) | (simp; omega) | omega) ?_
      intro gawb_1 gbwb_1
      have gzwb_1 : w1.heap.size + 1 < wb.heap.size := by have := hkwb.size; (try simp at this); omega
      refine kuse (b := wr.heap.size) hkwb (by first | (simp; done) | (simp; omega) | omega) ?_
      intro gawb_2 gbwb_2
      have gzwb_2 : wr.heap.size < wb.heap.size := by have := hkwb.size; (try simp at this); omega
      go_wp2_with fail
      exact ⟨⟨1, L, G, by first | rfl | go_num, Or.inr (Or.inl ⟨rfl, by have := Hl.out; have := Hg.out; omega, by have := Hl.out; have := Hg.out; omega⟩), (by repeat (first | with_reducible exact Kept.refl _ | with_reducible assumption | with_reducible refine Kept.setCell ?_ (by first | (simp; done) | (simp; omega) | omega) _ | with_reducible refine Kept.alloc ?_ _ | with_reducible refine Kept.drewN ?_ _ | with_reducible refine Kept.drew ?_ | with_reducible refine Kept.trans ?_ (by with_reducible assumption) | with_reducible refine Kept.dr ?_ (by with_reducible assumption))), (by repeat (first | with_reducible assumption | with_reducible refine Wd.store (v := L) ?_ _ | with_reducible refine Wd.far ?_ (by omega) _ _ | with_reducible refine Wd.kept ?_ ((Kept.refl _).alloc _) | with_reducible refine Wd.kept ?_ ((Kept.refl _).drew) | with_reducible refine Wd.kept ?_ ((Kept.refl _).drewN _) | with_reducible refine Wd.kept ?_ (by with_reducible assumption))), (by repeat (first | with_reducible assumption | with_reducible refine Wd.store (v := G) ?_ _ | with_reducible refine Wd.far ?_ (by omega) _ _ | with_reducible refine Wd.kept ?_ ((Kept.refl _).alloc _) | with_reducible refine Wd.kept ?_ ((Kept.refl _).drew) | with_reducible refine Wd.kept ?_ ((Kept.refl _).drewN _) | with_reducible refine Wd.kept ?_ (by with_reducible assumption)))⟩, by simp [intOf]⟩
    · have ord : L ≤ G := by omega
      have Hl := Lib.hid hl
      have Hg := Lib.hid hg
      clear hl hg
      by_cases lt : v2 < L
      · go_wp2_with fail
        refine (cmp_lt v2 L lt _).mono ?_
        rintro e wa ⟨rfl, hkwa⟩
        refine kuse (b := w1.heap.size) hkwa (by first | (simp; done) | (simp; omega) | omega) ?_
        intro gawa_0 gbwa_0
        have gzwa_0 : w1.heap.size < wa.heap.size := by have := hkwa.size; (try simp at this); omega
        refine kuse (b := w1.heap.size + 1) hkwa (by first | (simp; done) | (simp; omega) | omega) ?_
        intro gawa_1 gbwa_1
        have gzwa_1 : w1.heap.size + 1 < wa.heap.size := by have := hkwa.size; (try simp at this); omega
        refine kuse (b := wr.heap.size) hkwa (by first | (simp; done) | (simp; omega) | omega) ?_
        intro gawa_2 gbwa_2
        have gzwa_2 : wr.heap.size < wa.heap.size := by have := hkwa.size; (try simp at this); omega
        go_wp2_with fail
        refine (cmp_lt v2 G (by omega) _).mono ?_
        rintro e wb ⟨rfl, hkwb⟩
        refine kuse (b := w1.heap.size) hkwb (by first | (simp; done) | (simp; omega) | omega) ?_
        intro gawb_0 gbwb_0
        have gzwb_0 : w1.heap.size < wb.heap.size := by have := hkwb.size; (try simp at this); omega
        refine kuse (b := w1.heap.size + 1) hkwb (by first | (simp; done) | (simp; omega) | omega) ?_
        intro gawb_1 gbwb_1
        have gzwb_1 : w1.heap.size + 1 < wb.heap.size := by have := hkwb.size; (try simp at this); omega
        refine kuse (b := wr.heap.size) hkwb (by first | (simp; done) | (simp; omega) | omega) ?_
        intro gawb_2 gbwb_2
        have gzwb_2 : wr.heap.size < wb.heap.size := by have := hkwb.size; (try simp at this); omega
        go_wp2_with fail
        exact ⟨⟨2, v2, G, by first | rfl | go_num, Or.inr (Or.inr (Or.inl ⟨rfl, by have := Hl.out; have := Hg.out; omega, by have := Hl.out; have := Hg.out; omega⟩)), (by repeat (first | with_reducible exact Kept.refl _ | with_reducible assumption | with_reducible refine Kept.setCell ?_ (by first | (simp; done) | (simp; omega) | omega) _ | with_reducible refine Kept.alloc ?_ _ | with_reducible refine Kept.drewN ?_ _ | with_reducible refine Kept.drew ?_ | with_reducible refine Kept.trans ?_ (by with_reducible assumption) | with_reducible refine Kept.dr ?_ (by with_reducible assumption))), (by repeat (first | with_reducible assumption | with_reducible refine Wd.store (v := L) ?_ _ | with_reducible refine Wd.far ?_ (by omega) _ _ | with_reducible refine Wd.kept ?_ ((Kept.refl _).alloc _) | with_reducible refine Wd.kept ?_ ((Kept.refl _).drew) | with_reducible refine Wd.kept ?_ ((Kept.refl _).drewN _) | with_reducible refine Wd.kept ?_ (by with_reducible assumption))), (by repeat (first | with_reducible assumption | with_reducible refine Wd.store (v := G) ?_ _ | with_reducible refine Wd.far ?_ (by omega) _ _ | with_reducible refine Wd.kept ?_ ((Kept.refl _).alloc _) | with_reducible refine Wd.kept ?_ ((Kept.refl _).drew) | with_reducible refine Wd.kept ?_ ((Kept.refl _).drewN _) | with_reducible refine Wd.kept ?_ (by with_reducible assumption)))⟩, by simp [intOf]⟩
      by_cases gt : G < v2
      · go_wp2_with fail
        refine (cmp_gt v2 L (by omega) _).mono ?_
        rintro e wa ⟨rfl, hkwa⟩
        refine kuse (b := w1.heap.size) hkwa (by first | (simp; done) | (simp; omega) | omega) ?_
        intro gawa_0 gbwa_0
        have gzwa_0 : w1.heap.size < wa.heap.size := by have := hkwa.size; (try simp at this); omega
        refine kuse (b := w1.heap.size + 1) hkwa (by first | (simp; done) | (simp; omega) | omega) ?_
        intro gawa_1 gbwa_1
        have gzwa_1 : w1.heap.size + 1 < wa.heap.size := by have := hkwa.size; (try simp at this); omega
        refine kuse (b := wr.heap.size) hkwa (by first | (simp; done) | (simp; omega) | omega) ?_
        intro gawa_2 gbwa_2
        have gzwa_2 : wr.heap.size < wa.heap.size := by have := hkwa.size; (try simp at this); omega
        go_wp2_with fail
        refine (cmp_gt v2 G gt _).mono ?_
        rintro e wb ⟨rfl, hkwb⟩
        refine kuse (b := w1.heap.size) hkwb (by first | (simp; done) | (simp; omega) | omega) ?_
        intro gawb_0 gbwb_0
        have gzwb_0 : w1.heap.size < wb.heap.size := by have := hkwb.size; (try simp at this); omega
        refine kuse (b := w1.heap.size + 1) hkwb (by first | (simp; done) | (simp; omega) | omega) ?_
        intro gawb_1 gbwb_1
        have gzwb_1 : w1.heap.size + 1 < wb.heap.size := by have := hkwb.size; (try simp at this); omega
        refine kuse (b := wr.heap.size) hkwb (by first | (simp; done) | (simp; omega) | omega) ?_
        intro gawb_2 gbwb_2
        have gzwb_2 : wr.heap.size < wb.heap.size := by have := hkwb.size; (try simp at this); omega
        go_wp2_with fail
        exact ⟨⟨2, L, v2, by first | rfl | go_num, Or.inr (Or.inr (Or.inl ⟨rfl, by have := Hl.out; have := Hg.out; omega, by have := Hl.out; have := Hg.out; omega⟩)), (by repeat (first | with_reducible exact Kept.refl _ | with_reducible assumption | with_reducible refine Kept.setCell ?_ (by first | (simp; done) | (simp; omega) | omega) _ | with_reducible refine Kept.alloc ?_ _ | with_reducible refine Kept.drewN ?_ _ | with_reducible refine Kept.drew ?_ | with_reducible refine Kept.trans ?_ (by with_reducible assumption) | with_reducible refine Kept.dr ?_ (by with_reducible assumption))), (by repeat (first | with_reducible assumption | with_reducible refine Wd.store (v := L) ?_ _ | with_reducible refine Wd.far ?_ (by omega) _ _ | with_reducible refine Wd.kept ?_ ((Kept.refl _).alloc _) | with_reducible refine Wd.kept ?_ ((Kept.refl _).drew) | with_reducible refine Wd.kept ?_ ((Kept.refl _).drewN _) | with_reducible refine Wd.kept ?_ (by with_reducible assumption))), (by repeat (first | with_reducible assumption | with_reducible refine Wd.store (v := G) ?_ _ | with_reducible refine Wd.far ?_ (by omega) _ _ | with_reducible refine Wd.kept ?_ ((Kept.refl _).alloc _) | with_reducible refine Wd.kept ?_ ((Kept.refl _).drew) | with_reducible refine Wd.kept ?_ ((Kept.refl _).drewN _) | with_reducible refine Wd.kept ?_ (by with_reducible assumption)))⟩, by simp [intOf]⟩
      go_wp2_with fail
      refine (cmp_ge v2 L (by omega) _).mono ?_
      rintro e wa ⟨r_wa, ⟨q_wa0, q_wa1⟩, rfl, hkwa⟩
      refine kuse (b := w1.heap.size) hkwa (by first | (simp; done) | (simp; omega) | omega) ?_
      intro gawa_0 gbwa_0
      have gzwa_0 : w1.heap.size < wa.heap.size := by have := hkwa.size; (try simp at this); omega
      refine kuse (b := w1.heap.size + 1) hkwa (by first | (simp; done) | (simp; omega) | omega) ?_
      intro gawa_1 gbwa_1
      have gzwa_1 : w1.heap.size + 1 < wa.heap.size := by have := hkwa.size; (try simp at this); omega
      refine kuse (b := wr.heap.size) hkwa (by first | (simp; done) | (simp; omega) | omega) ?_
      intro gawa_2 gbwa_2
      have gzwa_2 : wr.heap.size < wa.heap.size := by have := hkwa.size; (try simp at this); omega
      go_wp2_with fail
      refine (cmp_le v2 G (by omega) _).mono ?_
      rintro e wb ⟨r_wb, ⟨q_wb0, q_wb1⟩, rfl, hkwb⟩
      refine kuse (b := w1.heap.size) hkwb (by first | (simp; done) | (simp; omega) | omega) ?_
      intro gawb_0 gbwb_0
      have gzwb_0 : w1.heap.size < wb.heap.size := by have := hkwb.size; (try simp at this); omega
      refine kuse (b := w1.heap.size + 1) hkwb (by first | (simp; done) | (simp; omega) | omega) ?_
      intro gawb_1 gbwb_1
      have gzwb_1 : w1.heap.size + 1 < wb.heap.size := by have := hkwb.size; (try simp at this); omega
      refine kuse (b := wr.heap.size) hkwb (by first | (simp; done) | (simp; omega) | omega) ?_
      intro gawb_2 gbwb_2
      have gzwb_2 : wr.heap.size < wb.heap.size := by have := hkwb.size; (try simp at this); omega
      go_wp2_with fail
      exact ⟨⟨2, L, G, by first | rfl | go_num, Or.inr (Or.inr (Or.inl ⟨rfl, by have := Hl.out; have := Hg.out; omega, by have := Hl.out; have := Hg.out; omega⟩)), (by repeat (first | with_reducible exact Kept.refl _ | with_reducible assumption | with_reducible refine Kept.setCell ?_ (by first | (simp; done) | (simp; omega) | omega) _ | with_reducible refine Kept.alloc ?_ _ | with_reducible refine Kept.drewN ?_ _ | with_reducible refine Kept.drew ?_ | with_reducible refine Kept.trans ?_ (by with_reducible assumption) | with_reducible refine Kept.dr ?_ (by with_reducible assumption))), (by repeat (first | with_reducible assumption | with_reducible refine Wd.store (v := L) ?_ _ | with_reducible refine Wd.far ?_ (by omega) _ _ | with_reducible refine Wd.kept ?_ ((Kept.refl _).alloc _) | with_reducible refine Wd.kept ?_ ((Kept.refl _).drew) | with_reducible refine Wd.kept ?_ ((Kept.refl _).drewN _) | with_reducible refine Wd.kept ?_ (by with_reducible assumption))), (by repeat (first | with_reducible assumption | with_reducible refine Wd.store (v := G) ?_ _ | with_reducible refine Wd.far ?_ (by omega) _ _ | with_reducible refine Wd.kept ?_ ((Kept.refl _).alloc _) | with_reducible refine Wd.kept ?_ ((Kept.refl _).drew) | with_reducible refine Wd.kept ?_ ((Kept.refl _).drewN _) | with_reducible refine Wd.kept ?_ (by with_reducible assumption)))⟩, by simp [intOf]⟩
    · have ord : L ≤ G := by omega
      have Hl := Lib.hid hl
      have Hg := Lib.hid hg
      clear hl hg
      by_cases lt : v3 < L
      · go_wp2_with fail
        refine (cmp_lt v3 L lt _).mono ?_
        rintro e wa ⟨rfl, hkwa⟩
        refine kuse (b := w1.heap.size) hkwa (by first | (simp; done) | (simp; omega) | omega) ?_
        intro gawa_0 gbwa_0
        have gzwa_0 : w1.heap.size < wa.heap.size := by have := hkwa.size; (try simp at this); omega
        refine kuse (b := w1.heap.size + 1) hkwa (by first | (simp; done) | (simp; omega) | omega) ?_
        intro gawa_1 gbwa_1
        have gzwa_1 : w1.heap.size + 1 < wa.heap.size := by have := hkwa.size; (try simp at this); omega
        refine kuse (b := wr.heap.size) hkwa (by first | (simp; done) | (simp; omega) | omega) ?_
        intro gawa_2 gbwa_2
        have gzwa_2 : wr.heap.size < wa.heap.size := by have := hkwa.size; (try simp at this); omega
        go_wp2_with fail
        refine (cmp_lt v3 G (by omega) _).mono ?_
        rintro e wb ⟨rfl, hkwb⟩
        refine kuse (b := w1.heap.size) hkwb (by first | (simp; done) | (simp; omega) | omega) ?_
        intro gawb_0 gbwb_0
        have gzwb_0 : w1.heap.size < wb.heap.size := by have := hkwb.size; (try simp at this); omega
        refine kuse (b := w1.heap.size + 1) hkwb (by first | (simp; done) | (simp; omega) | omega) ?_
        intro gawb_1 gbwb_1
        have gzwb_1 : w1.heap.size + 1 < wb.heap.size := by have := hkwb.size; (try simp at this); omega
        refine kuse (b := wr.heap.size) hkwb (by first | (simp; done) | (simp; omega) | omega) ?_
        intro gawb_2 gbwb_2
        have gzwb_2 : wr.heap.size < wb.heap.size := by have := hkwb.size; (try simp at this); omega
        go_wp2_with fail
        exact ⟨⟨3, v3, G, by first | rfl | go_num, Or.inr (Or.inr (Or.inr ⟨rfl, by have := Hl.out; have := Hg.out; omega, by have := Hl.out; have := Hg.out; omega⟩)), (by repeat (first | with_reducible exact Kept.refl _ | with_reducible assumption | with_reducible refine Kept.setCell ?_ (by first | (simp; done) | (simp; omega) | omega) _ | with_reducible refine Kept.alloc ?_ _ | with_reducible refine Kept.drewN ?_ _ | with_reducible refine Kept.drew ?_ | with_reducible refine Kept.trans ?_ (by with_reducible assumption) | with_reducible refine Kept.dr ?_ (by with_reducible assumption))), (by repeat (first | with_reducible assumption | with_reducible refine Wd.store (v := L) ?_ _ | with_reducible refine Wd.far ?_ (by omega) _ _ | with_reducible refine Wd.kept ?_ ((Kept.refl _).alloc _) | with_reducible refine Wd.kept ?_ ((Kept.refl _).drew) | with_reducible refine Wd.kept ?_ ((Kept.refl _).drewN _) | with_reducible refine Wd.kept ?_ (by with_reducible assumption))), (by repeat (first | with_reducible assumption | with_reducible refine Wd.store (v := G) ?_ _ | with_reducible refine Wd.far ?_ (by omega) _ _ | with_reducible refine Wd.kept ?_ ((Kept.refl _).alloc _) | with_reducible refine Wd.kept ?_ ((Kept.refl _).drew) | with_reducible refine Wd.kept ?_ ((Kept.refl _).drewN _) | with_reducible refine Wd.kept ?_ (by with_reducible assumption)))⟩, by simp [intOf]⟩
      by_cases gt : G < v3
      · go_wp2_with fail
        refine (cmp_gt v3 L (by omega) _).mono ?_
        rintro e wa ⟨rfl, hkwa⟩
        refine kuse (b := w1.heap.size) hkwa (by first | (simp; done) | (simp; omega) | omega) ?_
        intro gawa_0 gbwa_0
        have gzwa_0 : w1.heap.size < wa.heap.size := by have := hkwa.size; (try simp at this); omega
        refine kuse (b := w1.heap.size + 1) hkwa (by first | (simp; done) | (simp; omega) | omega) ?_
        intro gawa_1 gbwa_1
        have gzwa_1 : w1.heap.size + 1 < wa.heap.size := by have := hkwa.size; (try simp at this); omega
        refine kuse (b := wr.heap.size) hkwa (by first | (simp; done) | (simp; omega) | omega) ?_
        intro gawa_2 gbwa_2
        have gzwa_2 : wr.heap.size < wa.heap.size := by have := hkwa.size; (try simp at this); omega
        go_wp2_with fail
        refine (cmp_gt v3 G gt _).mono ?_
        rintro e wb ⟨rfl, hkwb⟩
        refine kuse (b := w1.heap.size) hkwb (by first | (simp; done) | (simp; omega) | omega) ?_
        intro gawb_0 gbwb_0
        have gzwb_0 : w1.heap.size < wb.heap.size := by have := hkwb.size; (try simp at this); omega
        refine kuse (b := w1.heap.size + 1) hkwb (by first | (simp; done) | (simp; omega) | omega) ?_
        intro gawb_1 gbwb_1
        have gzwb_1 : w1.heap.size + 1 < wb.heap.size := by have := hkwb.size; (try simp at this); omega
        refine kuse (b := wr.heap.size) hkwb (by first | (simp; done) | (simp; omega) | omega) ?_
        intro gawb_2 gbwb_2
        have gzwb_2 : wr.heap.size < wb.heap.size := by have := hkwb.size; (try simp at this); omega
        go_wp2_with fail
        exact ⟨⟨3, L, v3, by first | rfl | go_num, Or.inr (Or.inr (Or.inr ⟨rfl, by have := Hl.out; have := Hg.out; omega, by have := Hl.out; have := Hg.out; omega⟩)), (by repeat (first | with_reducible exact Kept.refl _ | with_reducible assumption | with_reducible refine Kept.setCell ?_ (by first | (simp; done) | (simp; omega) | omega) _ | with_reducible refine Kept.alloc ?_ _ | with_reducible refine Kept.drewN ?_ _ | with_reducible refine Kept.drew ?_ | with_reducible refine Kept.trans ?_ (by with_reducible assumption) | with_reducible refine Kept.dr ?_ (by with_reducible assumption))), (by repeat (first | with_reducible assumption | with_reducible refine Wd.store (v := L) ?_ _ | with_reducible refine Wd.far ?_ (by omega) _ _ | with_reducible refine Wd.kept ?_ ((Kept.refl _).alloc _) | with_reducible refine Wd.kept ?_ ((Kept.refl _).drew) | with_reducible refine Wd.kept ?_ ((Kept.refl _).drewN _) | with_reducible refine Wd.kept ?_ (by with_reducible assumption))), (by repeat (first | with_reducible assumption | with_reducible refine Wd.store (v := G) ?_ _ | with_reducible refine Wd.far ?_ (by omega) _ _ | with_reducible refine Wd.kept ?_ ((Kept.refl _).alloc _) | with_reducible refine Wd.kept ?_ ((Kept.refl _).drew) | with_reducible refine Wd.kept ?_ ((Kept.refl _).drewN _) | with_reducible refine Wd.kept ?_ (by with_reducible assumption)))⟩, by simp [intOf]⟩
      go_wp2_with fail
      refine (cmp_ge v3 L (by omega) _).mono ?_
      rintro e wa ⟨r_wa, ⟨q_wa0, q_wa1⟩, rfl, hkwa⟩
      refine kuse (b := w1.heap.size) hkwa (by first | (simp; done) | (simp; omega) | omega) ?_
      intro gawa_0 gbwa_0
      have gzwa_0 : w1.heap.size < wa.heap.size := by have := hkwa.size; (try simp at this); omega
      refine kuse (b := w1.heap.size + 1) hkwa (by first | (simp; done) | (simp; omega) | omega) ?_
      intro gawa_1 gbwa_1
      have gzwa_1 : w1.heap.size + 1 < wa.heap.size := by have := hkwa.size; (try simp at this); omega
      refine kuse (b := wr.heap.size) hkwa (by first | (simp; done) | (simp; omega) | omega) ?_
      intro gawa_2 gbwa_2
      have gzwa_2 : wr.heap.size < wa.heap.size := by have := hkwa.size; (try simp at this); omega
      go_wp2_with fail
      refine (cmp_le v3 G (by omega) _).mono ?_
      rintro e wb ⟨r_wb, ⟨q_wb0, q_wb1⟩, rfl, hkwb⟩
      refine kuse (b := w1.heap.size) hkwb (by first | (simp; done) | (simp; omega) | omega) ?_
      intro gawb_0 gbwb_0
      have gzwb_0 : w1.heap.size < wb.heap.size := by have := hkwb.size; (try simp at this); omega
      refine kuse (b := w1.heap.size + 1) hkwb (by first | (simp; done) | (simp; omega) | omega) ?_
      intro gawb_1 gbwb_1
      have gzwb_1 : w1.heap.size + 1 < wb.heap.size := by have := hkwb.size; (try simp at this); omega
      refine kuse (b := wr.heap.size) hkwb (by first | (simp; done) | (simp; omega) | omega) ?_
      intro gawb_2 gbwb_2
      have gzwb_2 : wr.heap.size < wb.heap.size := by have := hkwb.size; (try simp at this); omega
      go_wp2_with fail
      exact ⟨⟨3, L, G, by first | rfl | go_num, Or.inr (Or.inr (Or.inr ⟨rfl, by have := Hl.out; have := Hg.out; omega, by have := Hl.out; have := Hg.out; omega⟩)), (by repeat (first | with_reducible exact Kept.refl _ | with_reducible assumption | with_reducible refine Kept.setCell ?_ (by first | (simp; done) | (simp; omega) | omega) _ | with_reducible refine Kept.alloc ?_ _ | with_reducible refine Kept.drewN ?_ _ | with_reducible refine Kept.drew ?_ | with_reducible refine Kept.trans ?_ (by with_reducible assumption) | with_reducible refine Kept.dr ?_ (by with_reducible assumption))), (by repeat (first | with_reducible assumption | with_reducible refine Wd.store (v := L) ?_ _ | with_reducible refine Wd.far ?_ (by omega) _ _ | with_reducible refine Wd.kept ?_ ((Kept.refl _).alloc _) | with_reducible refine Wd.kept ?_ ((Kept.refl _).drew) | with_reducible refine Wd.kept ?_ ((Kept.refl _).drewN _) | with_reducible refine Wd.kept ?_ (by with_reducible assumption))), (by repeat (first | with_reducible assumption | with_reducible refine Wd.store (v := G) ?_ _ | with_reducible refine Wd.far ?_ (by omega) _ _ | with_reducible refine Wd.kept ?_ ((Kept.refl _).alloc _) | with_reducible refine Wd.kept ?_ ((Kept.refl _).drew) | with_reducible refine Wd.kept ?_ ((Kept.refl _).drewN _) | with_reducible refine Wd.kept ?_ (by with_reducible assumption)))⟩, by simp [intOf]⟩
    · have eL : Hid (L = l) := Lib.hid (by have := zl.out; omega)
      have eG : Hid (G = g) := Lib.hid (by have := zg.out; omega)
      have ord : L ≤ G := by omega
      have lb : -4611686018427387904 ≤ L := by have := eL.out; omega
      have ub : G ≤ 4611686018427387904 := by have := eG.out; omega
      clear hl hg
      refine kuse (b := w.heap.size + 2) hkw (by first | (simp; done) | (simp; omega) | omega) ?_
      intro gawr_0 gbwr_0
      have gzwr_0 : w.heap.size + 2 < wr.heap.size := by have := hkw.size; (try simp at this); omega
      go_wp2_with fail
      refine (int_ok L (by omega) (by omega) _).mono ?_
      rintro e wa ⟨rfl, hkwa⟩
      refine kuse (b := w1.heap.size) hkwa (by first | (simp; done) | (simp; omega) | omega) ?_
      intro gawa_0 gbwa_0
      have gzwa_0 : w1.heap.size < wa.heap.size := by have := hkwa.size; (try simp at this); omega
      refine kuse (b := w1.heap.size + 1) hkwa (by first | (simp; done) | (simp; omega) | omega) ?_
      intro gawa_1 gbwa_1
      have gzwa_1 : w1.heap.size + 1 < wa.heap.size := by have := hkwa.size; (try simp at this); omega
      refine kuse (b := w.heap.size + 2) hkwa (by first | (simp; done) | (simp; omega) | omega) ?_
      intro gawa_2 gbwa_2
      have gzwa_2 : w.heap.size + 2 < wa.heap.size := by have := hkwa.size; (try simp at this); omega
      go_wp2_with fail
      refine (int_ok G (by omega) (by omega) _).mono ?_
      rintro e wb ⟨rfl, hkwb⟩
      refine kuse (b := w.heap.size + 2) hkwb (by first | (simp; done) | (simp; omega) | omega) ?_
      intro gawb_0 gbwb_0
      have gzwb_0 : w.heap.size + 2 < wb.heap.size := by have := hkwb.size; (try simp at this); omega
      go_wp2_with fail
      refine (result_ok L G (by omega) (by omega) (by omega) _).mono ?_
      rintro e wc ⟨rfl, hkwc⟩
      refine kuse (b := w.heap.size + 2) hkwc (by first | (simp; done) | (simp; omega) | omega) ?_
      intro gawc_0 gbwc_0
      have gzwc_0 : w.heap.size + 2 < wc.heap.size := by have := hkwc.size; (try simp at this); omega
      go_wp2_with fail
      all_goals exact bodyPost_ret (v := .tuple #[.agg #[.int .i64 L, .int .i64 G], .int .i64 0]) (by first | (simp [results, Try.results6, go_sem]; done) | (simp (maxDischargeDepth := 7) [results, Try.results6, go_sem, *]; done)) rfl ⟨by rw [eL.out, eG.out], (by repeat (first | with_reducible exact Kept.refl _ | with_reducible assumption | with_reducible refine Kept.setCell ?_ (by first | (simp; done) | (simp; omega) | omega) _ | with_reducible refine Kept.alloc ?_ _ | with_reducible refine Kept.drewN ?_ _ | with_reducible refine Kept.drew ?_ | with_reducible refine Kept.trans ?_ (by with_reducible assumption) | with_reducible refine Kept.dr ?_ (by with_reducible assumption)))⟩
set_option maxHeartbeats 4000000 in
set_option maxRecDepth 100000 in
theorem imul_bad (a b c d v0 v1 v2 v3 l g : Int) (x1 : a ≤ b) (x2 : -4611686018427387904 ≤ a) (x3 : b ≤ 4611686018427387904) (y1 : c ≤ d) (y2 : -4611686018427387904 ≤ c) (y3 : d ≤ 4611686018427387904) (e0 : Hid (a * c = v0)) (e1 : Hid (a * d = v1)) (e2 : Hid (b * c = v2)) (e3 : Hid (b * d = v3)) (zl : Hid (l = min (min (min v0 v1) v2) v3)) (zg : Hid (g = max (max (max v0 v1) v2) v3)) (lg : l < -4611686018427387904 ∨ 4611686018427387904 < g) (w : World) : Calls Try.prog 6 #[.agg #[.int .i64 a, .int .i64 b], .agg #[.int .i64 c, .int .i64 d]] w fun en w' => en = .returned (.tuple #[.agg #[.int .i64 0, .int .i64 0], .int .i64 2]) ∧ Kept w w' := by
  have ix0 : ∀ w, (Instr.index 39 (.agg #[.int .i64 (wh v1), .int .u64 (wl v1), .int .i64 (wh v2), .int .u64 (wl v2), .int .i64 (wh v3), .int .u64 (wl v3)]) (.int .i64 0)).run Try.prog w = .ok (.agg #[.int .i64 (wh v1), .int .u64 (wl v1)]) w := fun _ => by kernel_rfl
  have ix1 : ∀ w, (Instr.index 39 (.agg #[.int .i64 (wh v1), .int .u64 (wl v1), .int .i64 (wh v2), .int .u64 (wl v2), .int .i64 (wh v3), .int .u64 (wl v3)]) (.int .i64 1)).run Try.prog w = .ok (.agg #[.int .i64 (wh v2), .int .u64 (wl v2)]) w := fun _ => by kernel_rfl
  have ix2 : ∀ w, (Instr.index 39 (.agg #[.int .i64 (wh v1), .int .u64 (wl v1), .int .i64 (wh v2), .int .u64 (wl v2), .int .i64 (wh v3), .int .u64 (wl v3)]) (.int .i64 2)).run Try.prog w = .ok (.agg #[.int .i64 (wh v3), .int .u64 (wl v3)]) w := fun _ => by kernel_rfl
  go_enter Try.func6, Try.ntmps6
  go_wp2_with (first | (go_at_call 14; (first | refine (valid_ok _ _ (by omega) (by omega) (by omega) _).mono ?_ | refine (valid_bad _ _ (by omega) _).mono ?_); rintro e w' ⟨rfl, hk⟩; have hz := hk.size; (try (refine kuse (b := w.heap.size) hk (by first | (simp; done) | (simp; omega) | omega) ?_; intro hq0 hg0)); (try (have hy0 : w.heap.size < w'.heap.size := by (try simp at hz); omega)); (try (refine kuse (b := w.heap.size + 1) hk (by first | (simp; done) | (simp; omega) | omega) ?_; intro hq1 hg1)); (try (have hy1 : w.heap.size + 1 < w'.heap.size := by (try simp at hz); omega)); (try (refine kuse (b := w.heap.size + 2) hk (by first | (simp; done) | (simp; omega) | omega) ?_; intro hq2 hg2)); (try (have hy2 : w.heap.size + 2 < w'.heap.size := by (try simp at hz); omega)); (try (refine withF (p := w'.cell? ⟨w.heap.size, 0, none⟩ = some (.int .i64 a)) (by first | (simp (maxDischargeDepth := 7) [go_sem, hq0]; done) | fail) ?_; intro ff00; refine withF (p := w'.cell? ⟨w.heap.size, 1, none⟩ = some (.int .i64 b)) (by first | (simp (maxDischargeDepth := 7) [go_sem, hq0]; done) | fail) ?_; intro ff01; refine withF (p := ∀ o, w'.frozen? ⟨w.heap.size, o, none⟩ = false) (by first | (intro o; simp (maxDischargeDepth := 7) [go_sem, hg0]; done) | fail) ?_; intro fg0; clear hq0 hg0)); (try (refine withF (p := w'.cell? ⟨w.heap.size + 1, 0, none⟩ = some (.int .i64 c)) (by first | (simp (maxDischargeDepth := 7) [go_sem, hq1]; done) | fail) ?_; intro ff10; refine withF (p := w'.cell? ⟨w.heap.size + 1, 1, none⟩ = some (.int .i64 d)) (by first | (simp (maxDischargeDepth := 7) [go_sem, hq1]; done) | fail) ?_; intro ff11; refine withF (p := ∀ o, w'.frozen? ⟨w.heap.size + 1, o, none⟩ = false) (by first | (intro o; simp (maxDischargeDepth := 7) [go_sem, hg1]; done) | fail) ?_; intro fg1; clear hq1 hg1)); (try (refine withF (p := w'.cell? ⟨w.heap.size + 2, 0, none⟩ = some (.int .i64 0)) (by first | (simp (maxDischargeDepth := 7) [go_sem, hq2]; done) | fail) ?_; intro ff20; refine withF (p := w'.cell? ⟨w.heap.size + 2, 1, none⟩ = some (.int .i64 0)) (by first | (simp (maxDischargeDepth := 7) [go_sem, hq2]; done) | fail) ?_; intro ff21; refine withF (p := ∀ o, w'.frozen? ⟨w.heap.size + 2, o, none⟩ = false) (by first | (intro o; simp (maxDischargeDepth := 7) [go_sem, hg2]; done) | fail) ?_; intro fg2; clear hq2 hg2))))
  refine (wmul_v a c v0 (by omega) (by omega) (by omega) (by omega) e0 _).mono ?_
  rintro e w1 ⟨rfl, hk1⟩
  refine kuse (b := w.heap.size) hk1 (by first | (simp; done) | (simp; omega) | omega) ?_
  intro gaw1_0 gbw1_0
  have gzw1_0 : w.heap.size < w1.heap.size := by have := hk1.size; (try simp at this); omega
  refine kuse (b := w.heap.size + 1) hk1 (by first | (simp; done) | (simp; omega) | omega) ?_
  intro gaw1_1 gbw1_1
  have gzw1_1 : w.heap.size + 1 < w1.heap.size := by have := hk1.size; (try simp at this); omega
  refine kuse (b := w.heap.size + 2) hk1 (by first | (simp; done) | (simp; omega) | omega) ?_
  intro gaw1_2 gbw1_2
  have gzw1_2 : w.heap.size + 2 < w1.heap.size := by have := hk1.size; (try simp at this); omega
  go_wp2_with fail
  first | (go_region_held3 (fun W => W.cell? ⟨w.heap.size, 0, none⟩ = some (.int .i64 a) ∧ W.cell? ⟨w.heap.size, 1, none⟩ = some (.int .i64 b) ∧ W.cell? ⟨w.heap.size + 1, 0, none⟩ = some (.int .i64 c) ∧ W.cell? ⟨w.heap.size + 1, 1, none⟩ = some (.int .i64 d)) (go_keep) (first | (go_at_call 8; with_reducible refine (wmul_v a d v1 (by omega) (by omega) (by omega) (by omega) e1 _).mono ?_; rintro e w' ⟨rfl, hk⟩; refine kuse (b := w.heap.size) hk (by first | (simp; done) | (simp; omega) | omega) ?_; intro hq0 hg0; have hy0 : w.heap.size < w'.heap.size := (by have := hk.size; (try simp at this); omega); refine kuse (b := w.heap.size + 1) hk (by first | (simp; done) | (simp; omega) | omega) ?_; intro hq1 hg1; have hy1 : w.heap.size + 1 < w'.heap.size := (by have := hk.size; (try simp at this); omega); refine kuse (b := w.heap.size + 2) hk (by first | (simp; done) | (simp; omega) | omega) ?_; intro hq2 hg2; refine kuse (b := w1.heap.size) hk (by first | (simp; done) | (simp; omega) | omega) ?_; intro hq3 hg3; have hy3 : w1.heap.size < w'.heap.size := (by have := hk.size; (try simp at this); omega); refine kuse (b := w1.heap.size + 1) hk (by first | (simp; done) | (simp; omega) | omega) ?_; intro hq4 hg4; have hy4 : w1.heap.size + 1 < w'.heap.size := (by have := hk.size; (try simp at this); omega)) | (go_at_call 8; with_reducible refine (wmul_v b c v2 (by omega) (by omega) (by omega) (by omega) e2 _).mono ?_; rintro e w' ⟨rfl, hk⟩; refine kuse (b := w.heap.size) hk (by first | (simp; done) | (simp; omega) | omega) ?_; intro hq0 hg0; have hy0 : w.heap.size < w'.heap.size := (by have := hk.size; (try simp at this); omega); refine kuse (b := w.heap.size + 1) hk (by first | (simp; done) | (simp; omega) | omega) ?_; intro hq1 hg1; have hy1 : w.heap.size + 1 < w'.heap.size := (by have := hk.size; (try simp at this); omega); refine kuse (b := w.heap.size + 2) hk (by first | (simp; done) | (simp; omega) | omega) ?_; intro hq2 hg2; refine kuse (b := w1.heap.size) hk (by first | (simp; done) | (simp; omega) | omega) ?_; intro hq3 hg3; have hy3 : w1.heap.size < w'.heap.size := (by have := hk.size; (try simp at this); omega); refine kuse (b := w1.heap.size + 1) hk (by first | (simp; done) | (simp; omega) | omega) ?_; intro hq4 hg4; have hy4 : w1.heap.size + 1 < w'.heap.size := (by have := hk.size; (try simp at this); omega)) | (go_at_call 8; with_reducible refine (wmul_v b d v3 (by omega) (by omega) (by omega) (by omega) e3 _).mono ?_; rintro e w' ⟨rfl, hk⟩; refine kuse (b := w.heap.size) hk (by first | (simp; done) | (simp; omega) | omega) ?_; intro hq0 hg0; have hy0 : w.heap.size < w'.heap.size := (by have := hk.size; (try simp at this); omega); refine kuse (b := w.heap.size + 1) hk (by first | (simp; done) | (simp; omega) | omega) ?_; intro hq1 hg1; have hy1 : w.heap.size + 1 < w'.heap.size := (by have := hk.size; (try simp at this); omega); refine kuse (b := w.heap.size + 2) hk (by first | (simp; done) | (simp; omega) | omega) ?_; intro hq2 hg2; refine kuse (b := w1.heap.size) hk (by first | (simp; done) | (simp; omega) | omega) ?_; intro hq3 hg3; have hy3 : w1.heap.size < w'.heap.size := (by have := hk.size; (try simp at this); omega); refine kuse (b := w1.heap.size + 1) hk (by first | (simp; done) | (simp; omega) | omega) ?_; intro hq4 hg4; have hy4 : w1.heap.size + 1 < w'.heap.size := (by have := hk.size; (try simp at this); omega)))) | fail
  all_goals go_wp2_with fail
  have HN := Lib.hid (wd_new w1 v0 30)
  go_loopw [45] (fun i wr => ∃ K L G : Int, i = .int .i64 K ∧ MM v0 v1 v2 v3 K L G ∧ Kept w1 wr ∧ Wd (w1.heap.size) wr L ∧ Wd (w1.heap.size + 1) wr G) (fun i _ => (4 - intOf i).toNat)
  case atStart => exact ⟨0, v0, v0, rfl, Or.inl ⟨rfl, rfl, rfl⟩, (by repeat (first | with_reducible exact Kept.refl _ | with_reducible assumption | with_reducible refine Kept.setCell ?_ (by first | (simp; done) | (simp; omega) | omega) _ | with_reducible refine Kept.alloc ?_ _ | with_reducible refine Kept.drewN ?_ _ | with_reducible refine Kept.drew ?_ | with_reducible refine Kept.trans ?_ (by with_reducible assumption) | with_reducible refine Kept.dr ?_ (by with_reducible assumption))), Wd.kept HN.out.1 (by repeat (first | with_reducible exact Kept.refl _ | with_reducible assumption | with_reducible refine Kept.setCell ?_ (by first | (simp; done) | (simp; omega) | omega) _ | with_reducible refine Kept.alloc ?_ _ | with_reducible refine Kept.drewN ?_ _ | with_reducible refine Kept.drew ?_ | with_reducible refine Kept.trans ?_ (by with_reducible assumption) | with_reducible refine Kept.dr ?_ (by with_reducible assumption))), Wd.kept HN.out.2 (by repeat (first | with_reducible exact Kept.refl _ | with_reducible assumption | with_reducible refine Kept.setCell ?_ (by first | (simp; done) | (simp; omega) | omega) _ | with_reducible refine Kept.alloc ?_ _ | with_reducible refine Kept.drewN ?_ _ | with_reducible refine Kept.drew ?_ | with_reducible refine Kept.trans ?_ (by with_reducible assumption) | with_reducible refine Kept.dr ?_ (by with_reducible assumption)))⟩
  case round =>
    obtain ⟨K, L, G, rfl, hMM, hkw, hL, hG⟩ := hrel
    have HL := hL
    have HG := hG
    obtain ⟨l0, l1, lf, ls⟩ := hL
    obtain ⟨g0, g1, gf, gs⟩ := hG
    have hsz := hkw.size
    rcases hMM with ⟨rfl, hl, hg⟩ | ⟨rfl, hl, hg⟩ | ⟨rfl, hl, hg⟩ | ⟨rfl, hl, hg⟩
    · have ord : L ≤ G := by omega
      have Hl := Lib.hid hl
      have Hg := Lib.hid hg
      clear hl hg
      by_cases lt : v1 < L
      · go_wp2_with fail
        refine (cmp_lt v1 L lt _).mono ?_
        rintro e wa ⟨rfl, hkwa⟩
        refine kuse (b := w1.heap.size) hkwa (by first | (simp; done) | (simp; omega) | omega) ?_
        intro gawa_0 gbwa_0
        have gzwa_0 : w1.heap.size < wa.heap.size := by have := hkwa.size; (try simp at this); omega
        refine kuse (b := w1.heap.size + 1) hkwa (by first | (simp; done) | (simp; omega) | omega) ?_
        intro gawa_1 gbwa_1
        have gzwa_1 : w1.heap.size + 1 < wa.heap.size := by have := hkwa.size; (try simp at this); omega
        refine kuse (b := wr.heap.size) hkwa (by first | (simp; done) | (simp; omega) | omega) ?_
        intro gawa_2 gbwa_2
        have gzwa_2 : wr.heap.size < wa.heap.size := by have := hkwa.size; (try simp at this); omega
        go_wp2_with fail
        refine (cmp_lt v1 G (by omega) _).mono ?_
        rintro e wb ⟨rfl, hkwb⟩
        refine kuse (b := w1.heap.size) hkwb (by first | (simp; done) | (simp; omega) | omega) ?_
        intro gawb_0 gbwb_0
        have gzwb_0 : w1.heap.size < wb.heap.size := by have := hkwb.size; (try simp at this); omega
        refine kuse (b := w1.heap.size + 1) hkwb (by first | (simp; done) | (simp; omega) | omega) ?_
        intro gawb_1 gbwb_1
        have gzwb_1 : w1.heap.size + 1 < wb.heap.size := by have := hkwb.size; (try simp at this); omega
        refine kuse (b := wr.heap.size) hkwb (by first | (simp; done) | (simp; omega) | omega) ?_
        intro gawb_2 gbwb_2
        have gzwb_2 : wr.heap.size < wb.heap.size := by have := hkwb.size; (try simp at this); omega
        go_wp2_with fail
        exact ⟨⟨1, v1, G, by first | rfl | go_num, Or.inr (Or.inl ⟨rfl, by have := Hl.out; have := Hg.out; omega, by have := Hl.out; have := Hg.out; omega⟩), (by repeat (first | with_reducible exact Kept.refl _ | with_reducible assumption | with_reducible refine Kept.setCell ?_ (by first | (simp; done) | (simp; omega) | omega) _ | with_reducible refine Kept.alloc ?_ _ | with_reducible refine Kept.drewN ?_ _ | with_reducible refine Kept.drew ?_ | with_reducible refine Kept.trans ?_ (by with_reducible assumption) | with_reducible refine Kept.dr ?_ (by with_reducible assumption))), (by repeat (first | with_reducible assumption | with_reducible refine Wd.store (v := L) ?_ _ | with_reducible refine Wd.far ?_ (by omega) _ _ | with_reducible refine Wd.kept ?_ ((Kept.refl _).alloc _) | with_reducible refine Wd.kept ?_ ((Kept.refl _).drew) | with_reducible refine Wd.kept ?_ ((Kept.refl _).drewN _) | with_reducible refine Wd.kept ?_ (by with_reducible assumption))), (by repeat (first | with_reducible assumption | with_reducible refine Wd.store (v := G) ?_ _ | with_reducible refine Wd.far ?_ (by omega) _ _ | with_reducible refine Wd.kept ?_ ((Kept.refl _).alloc _) | with_reducible refine Wd.kept ?_ ((Kept.refl _).drew) | with_reducible refine Wd.kept ?_ ((Kept.refl _).drewN _) | with_reducible refine Wd.kept ?_ (by with_reducible assumption)))⟩, by simp [intOf]⟩
      by_cases gt : G < v1
      · go_wp2_with fail
        refine (cmp_gt v1 L (by omega) _).mono ?_
        rintro e wa ⟨rfl, hkwa⟩
        refine kuse (b := w1.heap.size) hkwa (by first | (simp; done) | (simp; omega) | omega) ?_
        intro gawa_0 gbwa_0
        have gzwa_0 : w1.heap.size < wa.heap.size := by have := hkwa.size; (try simp at this); omega
        refine kuse (b := w1.heap.size + 1) hkwa (by first | (simp; done) | (simp; omega) | omega) ?_
        intro gawa_1 gbwa_1
        have gzwa_1 : w1.heap.size + 1 < wa.heap.size := by have := hkwa.size; (try simp at this); omega
        refine kuse (b := wr.heap.size) hkwa (by first | (simp; done) | (simp; omega) | omega) ?_
        intro gawa_2 gbwa_2
        have gzwa_2 : wr.heap.size < wa.heap.size := by have := hkwa.size; (try simp at this); omega
        go_wp2_with fail
        refine (cmp_gt v1 G gt _).mono ?_
        rintro e wb ⟨rfl, hkwb⟩
        refine kuse (b := w1.heap.size) hkwb (by first | (simp; done) | (simp; omega) | omega) ?_
        intro gawb_0 gbwb_0
        have gzwb_0 : w1.heap.size < wb.heap.size := by have := hkwb.size; (try simp at this); omega
        refine kuse (b := w1.heap.size + 1) hkwb (by first | (simp; done) | (simp; omega) | omega) ?_
        intro gawb_1 gbwb_1
        have gzwb_1 : w1.heap.size + 1 < wb.heap.size := by have := hkwb.size; (try simp at this); omega
        refine kuse (b := wr.heap.size) hkwb (by first | (simp; done) | (simp; omega) | omega) ?_
        intro gawb_2 gbwb_2
        have gzwb_2 : wr.heap.size < wb.heap.size := by have := hkwb.size; (try simp at this); omega
        go_wp2_with fail
        exact ⟨⟨1, L, v1, by first | rfl | go_num, Or.inr (Or.inl ⟨rfl, by have := Hl.out; have := Hg.out; omega, by have := Hl.out; have := Hg.out; omega⟩), (by repeat (first | with_reducible exact Kept.refl _ | with_reducible assumption | with_reducible refine Kept.setCell ?_ (by first | (simp; done) | (simp; omega) | omega) _ | with_reducible refine Kept.alloc ?_ _ | with_reducible refine Kept.drewN ?_ _ | with_reducible refine Kept.drew ?_ | with_reducible refine Kept.trans ?_ (by with_reducible assumption) | with_reducible refine Kept.dr ?_ (by with_reducible assumption))), (by repeat (first | with_reducible assumption | with_reducible refine Wd.store (v := L) ?_ _ | with_reducible refine Wd.far ?_ (by omega) _ _ | with_reducible refine Wd.kept ?_ ((Kept.refl _).alloc _) | with_reducible refine Wd.kept ?_ ((Kept.refl _).drew) | with_reducible refine Wd.kept ?_ ((Kept.refl _).drewN _) | with_reducible refine Wd.kept ?_ (by with_reducible assumption))), (by repeat (first | with_reducible assumption | with_reducible refine Wd.store (v := G) ?_ _ | with_reducible refine Wd.far ?_ (by omega) _ _ | with_reducible refine Wd.kept ?_ ((Kept.refl _).alloc _) | with_reducible refine Wd.kept ?_ ((Kept.refl _).drew) | with_reducible refine Wd.kept ?_ ((Kept.refl _).drewN _) | with_reducible refine Wd.kept ?_ (by with_reducible assumption)))⟩, by simp [intOf]⟩
      go_wp2_with fail
      refine (cmp_ge v1 L (by omega) _).mono ?_
      rintro e wa ⟨r_wa, ⟨q_wa0, q_wa1⟩, rfl, hkwa⟩
      refine kuse (b := w1.heap.size) hkwa (by first | (simp; done) | (simp; omega) | omega) ?_
      intro gawa_0 gbwa_0
      have gzwa_0 : w1.heap.size < wa.heap.size := by have := hkwa.size; (try simp at this); omega
      refine kuse (b := w1.heap.size + 1) hkwa (by first | (simp; done) | (simp; omega) | omega) ?_
      intro gawa_1 gbwa_1
      have gzwa_1 : w1.heap.size + 1 < wa.heap.size := by have := hkwa.size; (try simp at this); omega
      refine kuse (b := wr.heap.size) hkwa (by first | (simp; done) | (simp; omega) | omega) ?_
      intro gawa_2 gbwa_2
      have gzwa_2 : wr.heap.size < wa.heap.size := by have := hkwa.size; (try simp at this); omega
      go_wp2_with fail
      refine (cmp_le v1 G (by omega) _).mono ?_
      rintro e wb ⟨r_wb, ⟨q_wb0, q_wb1⟩, rfl, hkwb⟩
      refine kuse (b := w1.heap.size) hkwb (by first | (simp; done) | (simp; omega) | omega) ?_
      intro gawb_0 gbwb_0
      have gzwb_0 : w1.heap.size < wb.heap.size := by have := hkwb.size; (try simp at this); omega
      refine kuse (b := w1.heap.size + 1) hkwb (by first | (simp; done) | (simp; omega) | omega) ?_
      intro gawb_1 gbwb_1
      have gzwb_1 : w1.heap.size + 1 < wb.heap.size := by have := hkwb.size; (try simp at this); omega
      refine kuse (b := wr.heap.size) hkwb (by first | (simp; done) | (simp; omega) | omega) ?_
      intro gawb_2 gbwb_2
      have gzwb_2 : wr.heap.size < wb.heap.size := by have := hkwb.size; (try simp at this); omega
      go_wp2_with fail
      exact ⟨⟨1, L, G, by first | rfl | go_num, Or.inr (Or.inl ⟨rfl, by have := Hl.out; have := Hg.out; omega, by have := Hl.out; have := Hg.out; omega⟩), (by repeat (first | with_reducible exact Kept.refl _ | with_reducible assumption | with_reducible refine Kept.setCell ?_ (by first | (simp; done) | (simp; omega) | omega) _ | with_reducible refine Kept.alloc ?_ _ | with_reducible refine Kept.drewN ?_ _ | with_reducible refine Kept.drew ?_ | with_reducible refine Kept.trans ?_ (by with_reducible assumption) | with_reducible refine Kept.dr ?_ (by with_reducible assumption))), (by repeat (first | with_reducible assumption | with_reducible refine Wd.store (v := L) ?_ _ | with_reducible refine Wd.far ?_ (by omega) _ _ | with_reducible refine Wd.kept ?_ ((Kept.refl _).alloc _) | with_reducible refine Wd.kept ?_ ((Kept.refl _).drew) | with_reducible refine Wd.kept ?_ ((Kept.refl _).drewN _) | with_reducible refine Wd.kept ?_ (by with_reducible assumption))), (by repeat (first | with_reducible assumption | with_reducible refine Wd.store (v := G) ?_ _ | with_reducible refine Wd.far ?_ (by omega) _ _ | with_reducible refine Wd.kept ?_ ((Kept.refl _).alloc _) | with_reducible refine Wd.kept ?_ ((Kept.refl _).drew) | with_reducible refine Wd.kept ?_ ((Kept.refl _).drewN _) | with_reducible refine Wd.kept ?_ (by with_reducible assumption)))⟩, by simp [intOf]⟩
    · have ord : L ≤ G := by omega
      have Hl := Lib.hid hl
      have Hg := Lib.hid hg
      clear hl hg
      by_cases lt : v2 < L
      · go_wp2_with fail
        refine (cmp_lt v2 L lt _).mono ?_
        rintro e wa ⟨rfl, hkwa⟩
        refine kuse (b := w1.heap.size) hkwa (by first | (simp; done) | (simp; omega) | omega) ?_
        intro gawa_0 gbwa_0
        have gzwa_0 : w1.heap.size < wa.heap.size := by have := hkwa.size; (try simp at this); omega
        refine kuse (b := w1.heap.size + 1) hkwa (by first | (simp; done) | (simp; omega) | omega) ?_
        intro gawa_1 gbwa_1
        have gzwa_1 : w1.heap.size + 1 < wa.heap.size := by have := hkwa.size; (try simp at this); omega
        refine kuse (b := wr.heap.size) hkwa (by first | (simp; done) | (simp; omega) | omega) ?_
        intro gawa_2 gbwa_2
        have gzwa_2 : wr.heap.size < wa.heap.size := by have := hkwa.size; (try simp at this); omega
        go_wp2_with fail
        refine (cmp_lt v2 G (by omega) _).mono ?_
        rintro e wb ⟨rfl, hkwb⟩
        refine kuse (b := w1.heap.size) hkwb (by first | (simp; done) | (simp; omega) | omega) ?_
        intro gawb_0 gbwb_0
        have gzwb_0 : w1.heap.size < wb.heap.size := by have := hkwb.size; (try simp at this); omega
        refine kuse (b := w1.heap.size + 1) hkwb (by first | (simp; done) | (simp; omega) | omega) ?_
        intro gawb_1 gbwb_1
        have gzwb_1 : w1.heap.size + 1 < wb.heap.size := by have := hkwb.size; (try simp at this); omega
        refine kuse (b := wr.heap.size) hkwb (by first | (simp; done) | (simp; omega) | omega) ?_
        intro gawb_2 gbwb_2
        have gzwb_2 : wr.heap.size < wb.heap.size := by have := hkwb.size; (try simp at this); omega
        go_wp2_with fail
        exact ⟨⟨2, v2, G, by first | rfl | go_num, Or.inr (Or.inr (Or.inl ⟨rfl, by have := Hl.out; have := Hg.out; omega, by have := Hl.out; have := Hg.out; omega⟩)), (by repeat (first | with_reducible exact Kept.refl _ | with_reducible assumption | with_reducible refine Kept.setCell ?_ (by first | (simp; done) | (simp; omega) | omega) _ | with_reducible refine Kept.alloc ?_ _ | with_reducible refine Kept.drewN ?_ _ | with_reducible refine Kept.drew ?_ | with_reducible refine Kept.trans ?_ (by with_reducible assumption) | with_reducible refine Kept.dr ?_ (by with_reducible assumption))), (by repeat (first | with_reducible assumption | with_reducible refine Wd.store (v := L) ?_ _ | with_reducible refine Wd.far ?_ (by omega) _ _ | with_reducible refine Wd.kept ?_ ((Kept.refl _).alloc _) | with_reducible refine Wd.kept ?_ ((Kept.refl _).drew) | with_reducible refine Wd.kept ?_ ((Kept.refl _).drewN _) | with_reducible refine Wd.kept ?_ (by with_reducible assumption))), (by repeat (first | with_reducible assumption | with_reducible refine Wd.store (v := G) ?_ _ | with_reducible refine Wd.far ?_ (by omega) _ _ | with_reducible refine Wd.kept ?_ ((Kept.refl _).alloc _) | with_reducible refine Wd.kept ?_ ((Kept.refl _).drew) | with_reducible refine Wd.kept ?_ ((Kept.refl _).drewN _) | with_reducible refine Wd.kept ?_ (by with_reducible assumption)))⟩, by simp [intOf]⟩
      by_cases gt : G < v2
      · go_wp2_with fail
        refine (cmp_gt v2 L (by omega) _).mono ?_
        rintro e wa ⟨rfl, hkwa⟩
        refine kuse (b := w1.heap.size) hkwa (by first | (simp; done) | (simp; omega) | omega) ?_
        intro gawa_0 gbwa_0
        have gzwa_0 : w1.heap.size < wa.heap.size := by have := hkwa.size; (try simp at this); omega
        refine kuse (b := w1.heap.size + 1) hkwa (by first | (simp; done) | (simp; omega) | omega) ?_
        intro gawa_1 gbwa_1
        have gzwa_1 : w1.heap.size + 1 < wa.heap.size := by have := hkwa.size; (try simp at this); omega
        refine kuse (b := wr.heap.size) hkwa (by first | (simp; done) | (simp; omega) | omega) ?_
        intro gawa_2 gbwa_2
        have gzwa_2 : wr.heap.size < wa.heap.size := by have := hkwa.size; (try simp at this); omega
        go_wp2_with fail
        refine (cmp_gt v2 G gt _).mono ?_
        rintro e wb ⟨rfl, hkwb⟩
        refine kuse (b := w1.heap.size) hkwb (by first | (simp; done) | (simp; omega) | omega) ?_
        intro gawb_0 gbwb_0
        have gzwb_0 : w1.heap.size < wb.heap.size := by have := hkwb.size; (try simp at this); omega
        refine kuse (b := w1.heap.size + 1) hkwb (by first | (simp; done) | (simp; omega) | omega) ?_
        intro gawb_1 gbwb_1
        have gzwb_1 : w1.heap.size + 1 < wb.heap.size := by have := hkwb.size; (try simp at this); omega
        refine kuse (b := wr.heap.size) hkwb (by first | (simp; done) | (simp; omega) | omega) ?_
        intro gawb_2 gbwb_2
        have gzwb_2 : wr.heap.size < wb.heap.size := by have := hkwb.size; (try simp at this); omega
        go_wp2_with fail
        exact ⟨⟨2, L, v2, by first | rfl | go_num, Or.inr (Or.inr (Or.inl ⟨rfl, by have := Hl.out; have := Hg.out; omega, by have := Hl.out; have := Hg.out; omega⟩)), (by repeat (first | with_reducible exact Kept.refl _ | with_reducible assumption | with_reducible refine Kept.setCell ?_ (by first | (simp; done) | (simp; omega) | omega) _ | with_reducible refine Kept.alloc ?_ _ | with_reducible refine Kept.drewN ?_ _ | with_reducible refine Kept.drew ?_ | with_reducible refine Kept.trans ?_ (by with_reducible assumption) | with_reducible refine Kept.dr ?_ (by with_reducible assumption))), (by repeat (first | with_reducible assumption | with_reducible refine Wd.store (v := L) ?_ _ | with_reducible refine Wd.far ?_ (by omega) _ _ | with_reducible refine Wd.kept ?_ ((Kept.refl _).alloc _) | with_reducible refine Wd.kept ?_ ((Kept.refl _).drew) | with_reducible refine Wd.kept ?_ ((Kept.refl _).drewN _) | with_reducible refine Wd.kept ?_ (by with_reducible assumption))), (by repeat (first | with_reducible assumption | with_reducible refine Wd.store (v := G) ?_ _ | with_reducible refine Wd.far ?_ (by omega) _ _ | with_reducible refine Wd.kept ?_ ((Kept.refl _).alloc _) | with_reducible refine Wd.kept ?_ ((Kept.refl _).drew) | with_reducible refine Wd.kept ?_ ((Kept.refl _).drewN _) | with_reducible refine Wd.kept ?_ (by with_reducible assumption)))⟩, by simp [intOf]⟩
      go_wp2_with fail
      refine (cmp_ge v2 L (by omega) _).mono ?_
      rintro e wa ⟨r_wa, ⟨q_wa0, q_wa1⟩, rfl, hkwa⟩
      refine kuse (b := w1.heap.size) hkwa (by first | (simp; done) | (simp; omega) | omega) ?_
      intro gawa_0 gbwa_0
      have gzwa_0 : w1.heap.size < wa.heap.size := by have := hkwa.size; (try simp at this); omega
      refine kuse (b := w1.heap.size + 1) hkwa (by first | (simp; done) | (simp; omega) | omega) ?_
      intro gawa_1 gbwa_1
      have gzwa_1 : w1.heap.size + 1 < wa.heap.size := by have := hkwa.size; (try simp at this); omega
      refine kuse (b := wr.heap.size) hkwa (by first | (simp; done) | (simp; omega) | omega) ?_
      intro gawa_2 gbwa_2
      have gzwa_2 : wr.heap.size < wa.heap.size := by have := hkwa.size; (try simp at this); omega
      go_wp2_with fail
      refine (cmp_le v2 G (by omega) _).mono ?_
      rintro e wb ⟨r_wb, ⟨q_wb0, q_wb1⟩, rfl, hkwb⟩
      refine kuse (b := w1.heap.size) hkwb (by first | (simp; done) | (simp; omega) | omega) ?_
      intro gawb_0 gbwb_0
      have gzwb_0 : w1.heap.size < wb.heap.size := by have := hkwb.size; (try simp at this); omega
      refine kuse (b := w1.heap.size + 1) hkwb (by first | (simp; done) | (simp; omega) | omega) ?_
      intro gawb_1 gbwb_1
      have gzwb_1 : w1.heap.size + 1 < wb.heap.size := by have := hkwb.size; (try simp at this); omega
      refine kuse (b := wr.heap.size) hkwb (by first | (simp; done) | (simp; omega) | omega) ?_
      intro gawb_2 gbwb_2
      have gzwb_2 : wr.heap.size < wb.heap.size := by have := hkwb.size; (try simp at this); omega
      go_wp2_with fail
      exact ⟨⟨2, L, G, by first | rfl | go_num, Or.inr (Or.inr (Or.inl ⟨rfl, by have := Hl.out; have := Hg.out; omega, by have := Hl.out; have := Hg.out; omega⟩)), (by repeat (first | with_reducible exact Kept.refl _ | with_reducible assumption | with_reducible refine Kept.setCell ?_ (by first | (simp; done) | (simp; omega) | omega) _ | with_reducible refine Kept.alloc ?_ _ | with_reducible refine Kept.drewN ?_ _ | with_reducible refine Kept.drew ?_ | with_reducible refine Kept.trans ?_ (by with_reducible assumption) | with_reducible refine Kept.dr ?_ (by with_reducible assumption))), (by repeat (first | with_reducible assumption | with_reducible refine Wd.store (v := L) ?_ _ | with_reducible refine Wd.far ?_ (by omega) _ _ | with_reducible refine Wd.kept ?_ ((Kept.refl _).alloc _) | with_reducible refine Wd.kept ?_ ((Kept.refl _).drew) | with_reducible refine Wd.kept ?_ ((Kept.refl _).drewN _) | with_reducible refine Wd.kept ?_ (by with_reducible assumption))), (by repeat (first | with_reducible assumption | with_reducible refine Wd.store (v := G) ?_ _ | with_reducible refine Wd.far ?_ (by omega) _ _ | with_reducible refine Wd.kept ?_ ((Kept.refl _).alloc _) | with_reducible refine Wd.kept ?_ ((Kept.refl _).drew) | with_reducible refine Wd.kept ?_ ((Kept.refl _).drewN _) | with_reducible refine Wd.kept ?_ (by with_reducible assumption)))⟩, by simp [intOf]⟩
    · have ord : L ≤ G := by omega
      have Hl := Lib.hid hl
      have Hg := Lib.hid hg
      clear hl hg
      by_cases lt : v3 < L
      · go_wp2_with fail
        refine (cmp_lt v3 L lt _).mono ?_
        rintro e wa ⟨rfl, hkwa⟩
        refine kuse (b := w1.heap.size) hkwa (by first | (simp; done) | (simp; omega) | omega) ?_
        intro gawa_0 gbwa_0
        have gzwa_0 : w1.heap.size < wa.heap.size := by have := hkwa.size; (try simp at this); omega
        refine kuse (b := w1.heap.size + 1) hkwa (by first | (simp; done) | (simp; omega) | omega) ?_
        intro gawa_1 gbwa_1
        have gzwa_1 : w1.heap.size + 1 < wa.heap.size := by have := hkwa.size; (try simp at this); omega
        refine kuse (b := wr.heap.size) hkwa (by first | (simp; done) | (simp; omega) | omega) ?_
        intro gawa_2 gbwa_2
        have gzwa_2 : wr.heap.size < wa.heap.size := by have := hkwa.size; (try simp at this); omega
        go_wp2_with fail
        refine (cmp_lt v3 G (by omega) _).mono ?_
        rintro e wb ⟨rfl, hkwb⟩
        refine kuse (b := w1.heap.size) hkwb (by first | (simp; done) | (simp; omega) | omega) ?_
        intro gawb_0 gbwb_0
        have gzwb_0 : w1.heap.size < wb.heap.size := by have := hkwb.size; (try simp at this); omega
        refine kuse (b := w1.heap.size + 1) hkwb (by first | (simp; done) | (simp; omega) | omega) ?_
        intro gawb_1 gbwb_1
        have gzwb_1 : w1.heap.size + 1 < wb.heap.size := by have := hkwb.size; (try simp at this); omega
        refine kuse (b := wr.heap.size) hkwb (by first | (simp; done) | (simp; omega) | omega) ?_
        intro gawb_2 gbwb_2
        have gzwb_2 : wr.heap.size < wb.heap.size := by have := hkwb.size; (try simp at this); omega
        go_wp2_with fail
        exact ⟨⟨3, v3, G, by first | rfl | go_num, Or.inr (Or.inr (Or.inr ⟨rfl, by have := Hl.out; have := Hg.out; omega, by have := Hl.out; have := Hg.out; omega⟩)), (by repeat (first | with_reducible exact Kept.refl _ | with_reducible assumption | with_reducible refine Kept.setCell ?_ (by first | (simp; done) | (simp; omega) | omega) _ | with_reducible refine Kept.alloc ?_ _ | with_reducible refine Kept.drewN ?_ _ | with_reducible refine Kept.drew ?_ | with_reducible refine Kept.trans ?_ (by with_reducible assumption) | with_reducible refine Kept.dr ?_ (by with_reducible assumption))), (by repeat (first | with_reducible assumption | with_reducible refine Wd.store (v := L) ?_ _ | with_reducible refine Wd.far ?_ (by omega) _ _ | with_reducible refine Wd.kept ?_ ((Kept.refl _).alloc _) | with_reducible refine Wd.kept ?_ ((Kept.refl _).drew) | with_reducible refine Wd.kept ?_ ((Kept.refl _).drewN _) | with_reducible refine Wd.kept ?_ (by with_reducible assumption))), (by repeat (first | with_reducible assumption | with_reducible refine Wd.store (v := G) ?_ _ | with_reducible refine Wd.far ?_ (by omega) _ _ | with_reducible refine Wd.kept ?_ ((Kept.refl _).alloc _) | with_reducible refine Wd.kept ?_ ((Kept.refl _).drew) | with_reducible refine Wd.kept ?_ ((Kept.refl _).drewN _) | with_reducible refine Wd.kept ?_ (by with_reducible assumption)))⟩, by simp [intOf]⟩
      by_cases gt : G < v3
      · go_wp2_with fail
        refine (cmp_gt v3 L (by omega) _).mono ?_
        rintro e wa ⟨rfl, hkwa⟩
        refine kuse (b := w1.heap.size) hkwa (by first | (simp; done) | (simp; omega) | omega) ?_
        intro gawa_0 gbwa_0
        have gzwa_0 : w1.heap.size < wa.heap.size := by have := hkwa.size; (try simp at this); omega
        refine kuse (b := w1.heap.size + 1) hkwa (by first | (simp; done) | (simp; omega) | omega) ?_
        intro gawa_1 gbwa_1
        have gzwa_1 : w1.heap.size + 1 < wa.heap.size := by have := hkwa.size; (try simp at this); omega
        refine kuse (b := wr.heap.size) hkwa (by first | (simp; done) | (simp; omega) | omega) ?_
        intro gawa_2 gbwa_2
        have gzwa_2 : wr.heap.size < wa.heap.size := by have := hkwa.size; (try simp at this); omega
        go_wp2_with fail
        refine (cmp_gt v3 G gt _).mono ?_
        rintro e wb ⟨rfl, hkwb⟩
        refine kuse (b := w1.heap.size) hkwb (by first | (simp; done) | (simp; omega) | omega) ?_
        intro gawb_0 gbwb_0
        have gzwb_0 : w1.heap.size < wb.heap.size := by have := hkwb.size; (try simp at this); omega
        refine kuse (b := w1.heap.size + 1) hkwb (by first | (simp; done) | (simp; omega) | omega) ?_
        intro gawb_1 gbwb_1
        have gzwb_1 : w1.heap.size + 1 < wb.heap.size := by have := hkwb.size; (try simp at this); omega
        refine kuse (b := wr.heap.size) hkwb (by first | (simp; done) | (simp; omega) | omega) ?_
        intro gawb_2 gbwb_2
        have gzwb_2 : wr.heap.size < wb.heap.size := by have := hkwb.size; (try simp at this); omega
        go_wp2_with fail
        exact ⟨⟨3, L, v3, by first | rfl | go_num, Or.inr (Or.inr (Or.inr ⟨rfl, by have := Hl.out; have := Hg.out; omega, by have := Hl.out; have := Hg.out; omega⟩)), (by repeat (first | with_reducible exact Kept.refl _ | with_reducible assumption | with_reducible refine Kept.setCell ?_ (by first | (simp; done) | (simp; omega) | omega) _ | with_reducible refine Kept.alloc ?_ _ | with_reducible refine Kept.drewN ?_ _ | with_reducible refine Kept.drew ?_ | with_reducible refine Kept.trans ?_ (by with_reducible assumption) | with_reducible refine Kept.dr ?_ (by with_reducible assumption))), (by repeat (first | with_reducible assumption | with_reducible refine Wd.store (v := L) ?_ _ | with_reducible refine Wd.far ?_ (by omega) _ _ | with_reducible refine Wd.kept ?_ ((Kept.refl _).alloc _) | with_reducible refine Wd.kept ?_ ((Kept.refl _).drew) | with_reducible refine Wd.kept ?_ ((Kept.refl _).drewN _) | with_reducible refine Wd.kept ?_ (by with_reducible assumption))), (by repeat (first | with_reducible assumption | with_reducible refine Wd.store (v := G) ?_ _ | with_reducible refine Wd.far ?_ (by omega) _ _ | with_reducible refine Wd.kept ?_ ((Kept.refl _).alloc _) | with_reducible refine Wd.kept ?_ ((Kept.refl _).drew) | with_reducible refine Wd.kept ?_ ((Kept.refl _).drewN _) | with_reducible refine Wd.kept ?_ (by with_reducible assumption)))⟩, by simp [intOf]⟩
      go_wp2_with fail
      refine (cmp_ge v3 L (by omega) _).mono ?_
      rintro e wa ⟨r_wa, ⟨q_wa0, q_wa1⟩, rfl, hkwa⟩
      refine kuse (b := w1.heap.size) hkwa (by first | (simp; done) | (simp; omega) | omega) ?_
      intro gawa_0 gbwa_0
      have gzwa_0 : w1.heap.size < wa.heap.size := by have := hkwa.size; (try simp at this); omega
      refine kuse (b := w1.heap.size + 1) hkwa (by first | (simp; done) | (simp; omega) | omega) ?_
      intro gawa_1 gbwa_1
      have gzwa_1 : w1.heap.size + 1 < wa.heap.size := by have := hkwa.size; (try simp at this); omega
      refine kuse (b := wr.heap.size) hkwa (by first | (simp; done) | (simp; omega) | omega) ?_
      intro gawa_2 gbwa_2
      have gzwa_2 : wr.heap.size < wa.heap.size := by have := hkwa.size; (try simp at this); omega
      go_wp2_with fail
      refine (cmp_le v3 G (by omega) _).mono ?_
      rintro e wb ⟨r_wb, ⟨q_wb0, q_wb1⟩, rfl, hkwb⟩
      refine kuse (b := w1.heap.size) hkwb (by first | (simp; done) | (simp; omega) | omega) ?_
      intro gawb_0 gbwb_0
      have gzwb_0 : w1.heap.size < wb.heap.size := by have := hkwb.size; (try simp at this); omega
      refine kuse (b := w1.heap.size + 1) hkwb (by first | (simp; done) | (simp; omega) | omega) ?_
      intro gawb_1 gbwb_1
      have gzwb_1 : w1.heap.size + 1 < wb.heap.size := by have := hkwb.size; (try simp at this); omega
      refine kuse (b := wr.heap.size) hkwb (by first | (simp; done) | (simp; omega) | omega) ?_
      intro gawb_2 gbwb_2
      have gzwb_2 : wr.heap.size < wb.heap.size := by have := hkwb.size; (try simp at this); omega
      go_wp2_with fail
      exact ⟨⟨3, L, G, by first | rfl | go_num, Or.inr (Or.inr (Or.inr ⟨rfl, by have := Hl.out; have := Hg.out; omega, by have := Hl.out; have := Hg.out; omega⟩)), (by repeat (first | with_reducible exact Kept.refl _ | with_reducible assumption | with_reducible refine Kept.setCell ?_ (by first | (simp; done) | (simp; omega) | omega) _ | with_reducible refine Kept.alloc ?_ _ | with_reducible refine Kept.drewN ?_ _ | with_reducible refine Kept.drew ?_ | with_reducible refine Kept.trans ?_ (by with_reducible assumption) | with_reducible refine Kept.dr ?_ (by with_reducible assumption))), (by repeat (first | with_reducible assumption | with_reducible refine Wd.store (v := L) ?_ _ | with_reducible refine Wd.far ?_ (by omega) _ _ | with_reducible refine Wd.kept ?_ ((Kept.refl _).alloc _) | with_reducible refine Wd.kept ?_ ((Kept.refl _).drew) | with_reducible refine Wd.kept ?_ ((Kept.refl _).drewN _) | with_reducible refine Wd.kept ?_ (by with_reducible assumption))), (by repeat (first | with_reducible assumption | with_reducible refine Wd.store (v := G) ?_ _ | with_reducible refine Wd.far ?_ (by omega) _ _ | with_reducible refine Wd.kept ?_ ((Kept.refl _).alloc _) | with_reducible refine Wd.kept ?_ ((Kept.refl _).drew) | with_reducible refine Wd.kept ?_ ((Kept.refl _).drewN _) | with_reducible refine Wd.kept ?_ (by with_reducible assumption)))⟩, by simp [intOf]⟩
    · have eL : Hid (L = l) := Lib.hid (by have := zl.out; omega)
      have eG : Hid (G = g) := Lib.hid (by have := zg.out; omega)
      have ord : L ≤ G := by omega
      have hb : L < -4611686018427387904 ∨ 4611686018427387904 < G := by have := eL.out; have := eG.out; omega
      clear hl hg
      refine kuse (b := w.heap.size + 2) hkw (by first | (simp; done) | (simp; omega) | omega) ?_
      intro gawr_0 gbwr_0
      have gzwr_0 : w.heap.size + 2 < wr.heap.size := by have := hkw.size; (try simp at this); omega
      by_cases iL : -9223372036854775808 ≤ L ∧ L ≤ 9223372036854775807
      · by_cases iG : -9223372036854775808 ≤ G ∧ G ≤ 9223372036854775807
        · go_wp2_with fail
          refine (int_ok L (by omega) (by omega) _).mono ?_
          rintro e wa ⟨rfl, hkwa⟩
          refine kuse (b := w1.heap.size) hkwa (by first | (simp; done) | (simp; omega) | omega) ?_
          intro gawa_0 gbwa_0
          have gzwa_0 : w1.heap.size < wa.heap.size := by have := hkwa.size; (try simp at this); omega
          refine kuse (b := w1.heap.size + 1) hkwa (by first | (simp; done) | (simp; omega) | omega) ?_
          intro gawa_1 gbwa_1
          have gzwa_1 : w1.heap.size + 1 < wa.heap.size := by have := hkwa.size; (try simp at this); omega
          refine kuse (b := w.heap.size + 2) hkwa (by first | (simp; done) | (simp; omega) | omega) ?_
          intro gawa_2 gbwa_2
          have gzwa_2 : w.heap.size + 2 < wa.heap.size := by have := hkwa.size; (try simp at this); omega
          go_wp2_with fail
          refine (int_ok G (by omega) (by omega) _).mono ?_
          rintro e wb ⟨rfl, hkwb⟩
          refine kuse (b := w.heap.size + 2) hkwb (by first | (simp; done) | (simp; omega) | omega) ?_
          intro gawb_0 gbwb_0
          have gzwb_0 : w.heap.size + 2 < wb.heap.size := by have := hkwb.size; (try simp at this); omega
          go_wp2_with fail
          refine (result_bad L G (by omega) _).mono ?_
          rintro e wc ⟨rfl, hkwc⟩
          refine kuse (b := w.heap.size + 2) hkwc (by first | (simp; done) | (simp; omega) | omega) ?_
          intro gawc_0 gbwc_0
          have gzwc_0 : w.heap.size + 2 < wc.heap.size := by have := hkwc.size; (try simp at this); omega
          go_wp2_with fail
          all_goals exact bodyPost_ret (v := .tuple #[.agg #[.int .i64 0, .int .i64 0], .int .i64 2]) (by first | (simp [results, Try.results6, go_sem]; done) | (simp (maxDischargeDepth := 7) [results, Try.results6, go_sem, *]; done)) rfl ⟨rfl, (by repeat (first | with_reducible exact Kept.refl _ | with_reducible assumption | with_reducible refine Kept.setCell ?_ (by first | (simp; done) | (simp; omega) | omega) _ | with_reducible refine Kept.alloc ?_ _ | with_reducible refine Kept.drewN ?_ _ | with_reducible refine Kept.drew ?_ | with_reducible refine Kept.trans ?_ (by with_reducible assumption) | with_reducible refine Kept.dr ?_ (by with_reducible assumption)))⟩
        · go_wp2_with fail
          refine (int_ok L (by omega) (by omega) _).mono ?_
          rintro e wa ⟨rfl, hkwa⟩
          refine kuse (b := w1.heap.size) hkwa (by first | (simp; done) | (simp; omega) | omega) ?_
          intro gawa_0 gbwa_0
          have gzwa_0 : w1.heap.size < wa.heap.size := by have := hkwa.size; (try simp at this); omega
          refine kuse (b := w1.heap.size + 1) hkwa (by first | (simp; done) | (simp; omega) | omega) ?_
          intro gawa_1 gbwa_1
          have gzwa_1 : w1.heap.size + 1 < wa.heap.size := by have := hkwa.size; (try simp at this); omega
          refine kuse (b := w.heap.size + 2) hkwa (by first | (simp; done) | (simp; omega) | omega) ?_
          intro gawa_2 gbwa_2
          have gzwa_2 : w.heap.size + 2 < wa.heap.size := by have := hkwa.size; (try simp at this); omega
          go_wp2_with fail
          refine (int_no G (by omega) _).mono ?_
          rintro e wb ⟨rfl, hkwb⟩
          refine kuse (b := w.heap.size + 2) hkwb (by first | (simp; done) | (simp; omega) | omega) ?_
          intro gawb_0 gbwb_0
          have gzwb_0 : w.heap.size + 2 < wb.heap.size := by have := hkwb.size; (try simp at this); omega
          go_wp2_with fail
          all_goals exact bodyPost_ret (v := .tuple #[.agg #[.int .i64 0, .int .i64 0], .int .i64 2]) (by first | (simp [results, Try.results6, go_sem]; done) | (simp (maxDischargeDepth := 7) [results, Try.results6, go_sem, *]; done)) rfl ⟨rfl, (by repeat (first | with_reducible exact Kept.refl _ | with_reducible assumption | with_reducible refine Kept.setCell ?_ (by first | (simp; done) | (simp; omega) | omega) _ | with_reducible refine Kept.alloc ?_ _ | with_reducible refine Kept.drewN ?_ _ | with_reducible refine Kept.drew ?_ | with_reducible refine Kept.trans ?_ (by with_reducible assumption) | with_reducible refine Kept.dr ?_ (by with_reducible assumption)))⟩
      · by_cases iG : -9223372036854775808 ≤ G ∧ G ≤ 9223372036854775807
        · go_wp2_with fail
          refine (int_no L (by omega) _).mono ?_
          rintro e wa ⟨rfl, hkwa⟩
          refine kuse (b := w1.heap.size) hkwa (by first | (simp; done) | (simp; omega) | omega) ?_
          intro gawa_0 gbwa_0
          have gzwa_0 : w1.heap.size < wa.heap.size := by have := hkwa.size; (try simp at this); omega
          refine kuse (b := w1.heap.size + 1) hkwa (by first | (simp; done) | (simp; omega) | omega) ?_
          intro gawa_1 gbwa_1
          have gzwa_1 : w1.heap.size + 1 < wa.heap.size := by have := hkwa.size; (try simp at this); omega
          refine kuse (b := w.heap.size + 2) hkwa (by first | (simp; done) | (simp; omega) | omega) ?_
          intro gawa_2 gbwa_2
          have gzwa_2 : w.heap.size + 2 < wa.heap.size := by have := hkwa.size; (try simp at this); omega
          go_wp2_with fail
          refine (int_ok G (by omega) (by omega) _).mono ?_
          rintro e wb ⟨rfl, hkwb⟩
          refine kuse (b := w.heap.size + 2) hkwb (by first | (simp; done) | (simp; omega) | omega) ?_
          intro gawb_0 gbwb_0
          have gzwb_0 : w.heap.size + 2 < wb.heap.size := by have := hkwb.size; (try simp at this); omega
          go_wp2_with fail
          all_goals exact bodyPost_ret (v := .tuple #[.agg #[.int .i64 0, .int .i64 0], .int .i64 2]) (by first | (simp [results, Try.results6, go_sem]; done) | (simp (maxDischargeDepth := 7) [results, Try.results6, go_sem, *]; done)) rfl ⟨rfl, (by repeat (first | with_reducible exact Kept.refl _ | with_reducible assumption | with_reducible refine Kept.setCell ?_ (by first | (simp; done) | (simp; omega) | omega) _ | with_reducible refine Kept.alloc ?_ _ | with_reducible refine Kept.drewN ?_ _ | with_reducible refine Kept.drew ?_ | with_reducible refine Kept.trans ?_ (by with_reducible assumption) | with_reducible refine Kept.dr ?_ (by with_reducible assumption)))⟩
        · go_wp2_with fail
          refine (int_no L (by omega) _).mono ?_
          rintro e wa ⟨rfl, hkwa⟩
          refine kuse (b := w1.heap.size) hkwa (by first | (simp; done) | (simp; omega) | omega) ?_
          intro gawa_0 gbwa_0
          have gzwa_0 : w1.heap.size < wa.heap.size := by have := hkwa.size; (try simp at this); omega
          refine kuse (b := w1.heap.size + 1) hkwa (by first | (simp; done) | (simp; omega) | omega) ?_
          intro gawa_1 gbwa_1
          have gzwa_1 : w1.heap.size + 1 < wa.heap.size := by have := hkwa.size; (try simp at this); omega
          refine kuse (b := w.heap.size + 2) hkwa (by first | (simp; done) | (simp; omega) | omega) ?_
          intro gawa_2 gbwa_2
          have gzwa_2 : w.heap.size + 2 < wa.heap.size := by have := hkwa.size; (try simp at this); omega
          go_wp2_with fail
          refine (int_no G (by omega) _).mono ?_
          rintro e wb ⟨rfl, hkwb⟩
          refine kuse (b := w.heap.size + 2) hkwb (by first | (simp; done) | (simp; omega) | omega) ?_
          intro gawb_0 gbwb_0
          have gzwb_0 : w.heap.size + 2 < wb.heap.size := by have := hkwb.size; (try simp at this); omega
          go_wp2_with fail
          all_goals exact bodyPost_ret (v := .tuple #[.agg #[.int .i64 0, .int .i64 0], .int .i64 2]) (by first | (simp [results, Try.results6, go_sem]; done) | (simp (maxDischargeDepth := 7) [results, Try.results6, go_sem, *]; done)) rfl ⟨rfl, (by repeat (first | with_reducible exact Kept.refl _ | with_reducible assumption | with_reducible refine Kept.setCell ?_ (by first | (simp; done) | (simp; omega) | omega) _ | with_reducible refine Kept.alloc ?_ _ | with_reducible refine Kept.drewN ?_ _ | with_reducible refine Kept.drew ?_ | with_reducible refine Kept.trans ?_ (by with_reducible assumption) | with_reducible refine Kept.dr ?_ (by with_reducible assumption)))⟩
end Go.Proofs.Ytfmijkbmedfcfaa
