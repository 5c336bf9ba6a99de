/-
  Own contracts: the law of layer 32 on scripts of burns: what is burnt and what is left add up.
-/
import Derived.Test.YtcchhmekmoekeaaFuelw
import Derived.Test.YtcchhmekmoekeaaSlice
import Derived.LoopTactic
import Derived.WalkKit
import Derived.ProofKit
import Derived.OpenShut
import Derived.WalkLawsBesides
import Derived.WalkSpells
import Derived.Lib.Hide
import Derived.Deep.DeepCutAuto
import Derived.Deep.CutBlock
import Derived.Deep.QuietTactic
import Derived.BigQuiet
import Derived.Handy
import Derived.StillTailTactics
import Derived.IntWalk
import Derived.LoopN
import Derived.Deep.RegionHeld3
namespace Go.Proofs.Ytcchhmekmoekeaa
open Go.ChangeShapes Go.WideShapes Go.ChangeAt Go.RowKit
set_option linter.unusedVariables false
set_option linter.unusedSimpArgs false
theorem cells_kept {w W : World} (hk : Kept w W) {n b : Nat} {p : Option Addr} {o : Nat} {A : Nat → Nat} {V : Nat → Value} (hp : 0 < n → p = some ⟨b, o, none⟩ ∧ b < w.heap.size) (hc : ∀ i, i < n → w.cell? ⟨b, A i, none⟩ = some (V i)) : ∀ i, i < n → W.cell? ⟨b, A i, none⟩ = some (V i) :=
  fun i hi => (hk.cell (p := ⟨b, A i, none⟩) (hp (by omega)).2).trans (hc i hi)
theorem ptr_kept {w W : World} (hk : Kept w W) {n b : Nat} {p : Option Addr} {o : Nat} (hp : 0 < n → p = some ⟨b, o, none⟩ ∧ b < w.heap.size) : 0 < n → p = some ⟨b, o, none⟩ ∧ b < W.heap.size :=
  fun h => ⟨(hp h).1, Nat.lt_of_lt_of_le (hp h).2 hk.size⟩

theorem wrp {a b : Int} (h : a = b) (h0 : -9223372036854775808 ≤ b) (h1 : b ≤ 9223372036854775807) : IntKind.i64.wrap a = b := by
  subst h; exact IntWalk.i64_in _ ⟨h0, h1⟩
structure Acc (B : Nat) (W : World) (e l r x : Int) : Prop where
  c0 : W.cell? ⟨B, 0, none⟩ = some (.int .i64 e)
  c1 : W.cell? ⟨B, 1, none⟩ = some (.int .i64 l)
  c2 : W.cell? ⟨B, 2, none⟩ = some (.int .i64 r)
  c3 : W.cell? ⟨B, 3, none⟩ = some (.int .i64 x)
  fr : ∀ o, W.frozen? ⟨B, o, none⟩ = false
  sz : B < W.heap.size
theorem Acc.kept {B : Nat} {W W' : World} {e l r x : Int} (h : Acc B W e l r x) (hk : Kept W W') : Acc B W' e l r x :=
  ⟨(hk.cell (p := ⟨B, 0, none⟩) h.sz).trans h.c0, (hk.cell (p := ⟨B, 1, none⟩) h.sz).trans h.c1, (hk.cell (p := ⟨B, 2, none⟩) h.sz).trans h.c2, (hk.cell (p := ⟨B, 3, none⟩) h.sz).trans h.c3, fun o => (hk.frozen (p := ⟨B, o, none⟩) h.sz).trans (h.fr o), Nat.lt_of_lt_of_le h.sz hk.size⟩
theorem Acc.store {B : Nat} {W : World} {e l r x : Int} (h : Acc B W e l r x) (y : Int) : Acc B ((((W.setCell ⟨B, 0, none⟩ (.int .i64 e)).setCell ⟨B, 1, none⟩ (.int .i64 l)).setCell ⟨B, 2, none⟩ (.int .i64 r)).setCell ⟨B, 3, none⟩ (.int .i64 y)) e l r y := by
  obtain ⟨c0, c1, c2, c3, fr, sz⟩ := h
  exact ⟨by simp [go_sem, *], by simp [go_sem, *], by simp [go_sem, *], by simp [go_sem, *], by intro o; simp [go_sem, *], by simp; exact sz⟩
set_option maxHeartbeats 4000000 in
set_option maxRecDepth 100000 in
theorem law_adds (e l r b : Int) (p1 : Option Addr) (n1 c1 b1 o1 : Nat) (F1_0 F1_1 : Nat → Int) (e_0 : -9223372036854775808 ≤ e) (e_1 : e ≤ 9223372036854775807) (l_0 : -9223372036854775808 ≤ l) (l_1 : l ≤ 9223372036854775807) (r_0 : -9223372036854775808 ≤ r) (r_1 : r ≤ 9223372036854775807) (b_0 : -9223372036854775808 ≤ b) (b_1 : b ≤ 9223372036854775807) (hl1 : n1 ≤ c1) (hm1 : c1 ≤ maxLen) (fb1_0 : ∀ i, i < n1 → -9223372036854775808 ≤ F1_0 i ∧ F1_0 i ≤ 9223372036854775807) (fb1_1 : ∀ i, i < n1 → -9223372036854775808 ≤ F1_1 i ∧ F1_1 i ≤ 9223372036854775807) (w : World) (hp1 : 0 < n1 → p1 = some ⟨b1, o1, none⟩ ∧ b1 < w.heap.size) (hc1_0 : ∀ i, i < n1 → w.cell? ⟨b1, o1 + (i * 2 + 0), none⟩ = some (.int .i64 (F1_0 i))) (hc1_1 : ∀ i, i < n1 → w.cell? ⟨b1, o1 + (i * 2 + 1), none⟩ = some (.int .i64 (F1_1 i))) :
    Calls Try.prog 6 #[.agg #[.int .i64 e, .int .i64 l, .int .i64 r, .int .i64 b], .slice p1 n1 c1] w fun en w' => en = .returned (.bool true) ∧ Kept w w' := by
  have Hp := Lib.hid hp1; have Hc := Lib.hid hc1_0; have Hd := Lib.hid hc1_1; have Fb := Lib.hid fb1_0; have Tb := Lib.hid fb1_1
  clear hp1 hc1_0 hc1_1 fb1_0 fb1_1
  unfold maxLen at hm1
  by_cases hA : AV e l r b
  · obtain ⟨h1, h2, h3, h4, h5, h6, h7, h8⟩ := hA
    go_enter Try.func6, Try.ntmps6
    go_wp2_with fail
    refine (awake_w _).mono ?_
    rintro e w1 ⟨rfl, hk1⟩
    refine kuse (b := w.heap.size) hk1 (by first | (simp; done) | (simp; omega) | omega) ?_
    intro ha1_0 hb1_0
    have hz1_0 : w.heap.size < w1.heap.size := by have := hk1.size; (try simp at this); omega
    go_wp2_with fail
    refine (check_ok _ _ _ _ (by omega) (by omega) (by omega) (by omega) (by omega) (by omega) (by omega) (by omega) _).mono ?_
    rintro e w2 ⟨rfl, hk2⟩
    refine kuse (b := w.heap.size) hk2 (by first | (simp; done) | (simp; omega) | omega) ?_
    intro ha2_0 hb2_0
    have hz2_0 : w.heap.size < w2.heap.size := by have := hk2.size; (try simp at this); omega
    go_wp2_with fail
    go_loopw [25] (fun i wr => ∃ (k : Nat) (x : Int), k ≤ n1 ∧ i = .int .i64 k ∧ 0 ≤ x ∧ x ≤ l ∧ Acc w.heap.size wr e l r x ∧ Kept w wr) (fun i _ => n1 - (intOf i).toNat)
    case atStart => exact ⟨0, b, Nat.zero_le _, rfl, h7, h8, ⟨by simp [*], by simp [*], by simp [*], by simp [*], by intro o; simp [*], by omega⟩, (by repeat (first | with_reducible exact Kept.refl _ | with_reducible assumption | with_reducible refine Kept.setCell ?_ (by first | (simp; done) | (simp; omega) | omega) _ | with_reducible refine Kept.alloc ?_ _ | with_reducible refine Kept.drewN ?_ _ | with_reducible refine Kept.drew ?_ | with_reducible refine Kept.trans ?_ (by with_reducible assumption) | with_reducible refine Kept.dr ?_ (by with_reducible assumption)))⟩
    case round =>
      obtain ⟨k, x, hk, rfl, x0, x1, hA, hkw⟩ := hrel
      have HA := Lib.hid hA
      obtain ⟨q0, q1, q2, q3, qf, qs⟩ := hA
      by_cases hlt : k < n1
      · obtain ⟨f, hf⟩ : ∃ f, F1_0 k = f := ⟨_, rfl⟩
        obtain ⟨t, ht⟩ : ∃ t, F1_1 k = t := ⟨_, rfl⟩
        obtain ⟨hp, hpb⟩ := Hp.out (by omega)
        have c0 : wr.cell? ⟨b1, o1 + k * 2, none⟩ = some (.int .i64 (F1_0 k)) := (hkw.cell (p := ⟨b1, o1 + k * 2, none⟩) hpb).trans (Hc.out k hlt)
        have d0 : wr.cell? ⟨b1, o1 + k * 2 + 1, none⟩ = some (.int .i64 (F1_1 k)) := (hkw.cell (p := ⟨b1, o1 + k * 2 + 1, none⟩) hpb).trans (by have := Hd.out k hlt; simpa [Nat.add_assoc] using this)
        obtain ⟨f0, f1⟩ := Fb.out k hlt
        obtain ⟨t0, t1⟩ := Tb.out k hlt
        rw [hf] at c0 f0 f1
        rw [ht] at d0 t0 t1
        clear hf ht
        subst hp
        by_cases h50 : 50 ≤ k
        · go_wp2_with fail
          have s4 : IntKind.i64.wrap (e + (l - x)) = e + (l - x) := wrp rfl (by omega) (by omega)
          first | (go_region_held3 (fun W => W.cell? ⟨w.heap.size, 0, none⟩ = some (.int .i64 e) ∧ W.cell? ⟨w.heap.size, 1, none⟩ = some (.int .i64 l) ∧ W.cell? ⟨w.heap.size, 2, none⟩ = some (.int .i64 r) ∧ W.cell? ⟨w.heap.size, 3, none⟩ = some (.int .i64 x)) (go_keep) (first | (go_at_call 16; refine (left_ok _ _ _ _ (by omega) (by omega) (by omega) (by omega) (by omega) (by omega) (by omega) (by omega) _).mono ?_; rintro e w' ⟨rfl, hk⟩; refine kuse (b := w.heap.size) hk (by first | (simp; done) | (simp; omega) | omega) ?_; intro hq0 hg0; have hy0 : w.heap.size < w'.heap.size := (by have := hk.size; (try simp at this); omega)) | (go_at_call 18; refine (mass_ok _ _ _ _ (by omega) (by omega) (by omega) (by omega) (by omega) (by omega) (by omega) (by omega) _).mono ?_; rintro e w' ⟨rfl, hk⟩; refine kuse (b := w.heap.size) hk (by first | (simp; done) | (simp; omega) | omega) ?_; intro hq0 hg0; have hy0 : w.heap.size < w'.heap.size := (by have := hk.size; (try simp at this); omega)))) | fail
          all_goals go_wp2
          all_goals first | (go_ret; refine ⟨?_, (by repeat (first | with_reducible exact Kept.refl _ | with_reducible assumption | with_reducible refine Kept.setCell ?_ (by first | (simp; done) | (simp; omega) | omega) _ | with_reducible refine Kept.alloc ?_ _ | with_reducible refine Kept.drewN ?_ _ | with_reducible refine Kept.drew ?_ | with_reducible refine Kept.trans ?_ (by with_reducible assumption) | with_reducible refine Kept.dr ?_ (by with_reducible assumption)))⟩; first | rfl | (show Ending.returned (.bool (decide _)) = _; rw [decide_eq_true (by omega)]) | (show Ending.returned (.bool (decide _)) = _; rw [decide_eq_false (by omega)]) | (refine retb ?_; simp; done) | (refine retb ?_; simp; omega)) | (exfalso; omega)
        · by_cases k1 : f < 0 ∨ 50000 < f ∨ t < 0 ∨ 1099511627776 < t
          · go_wp2_with fail
            refine (burn_out _ _ _ _ _ _ (by omega) (by omega) (by omega) (by omega) (by omega) (by omega) (by omega) (by omega) (by omega) (by omega) (by omega) (by omega) (by omega) _).mono ?_
            rintro e wb ⟨rfl, hkb⟩
            refine kuse (b := w.heap.size) hkb (by first | (simp; done) | (simp; omega) | omega) ?_
            intro ga gb
            have gz : w.heap.size < wb.heap.size := by have := hkb.size; (try simp at this); omega
            refine kuse (b := wr.heap.size) hkb (by first | (simp; done) | (simp; omega) | omega) ?_
            intro gu gv
            have gy : wr.heap.size < wb.heap.size := by have := hkb.size; (try simp at this); omega
            go_wp2_with fail
            exact ⟨⟨k + 1, x, by omega, by go_num, x0, x1, Acc.kept HA.out (by repeat (first | with_reducible exact Kept.refl _ | with_reducible assumption | with_reducible refine Kept.setCell ?_ (by first | (simp; done) | (simp; omega) | omega) _ | with_reducible refine Kept.alloc ?_ _ | with_reducible refine Kept.drewN ?_ _ | with_reducible refine Kept.drew ?_ | with_reducible refine Kept.trans ?_ (by with_reducible assumption) | with_reducible refine Kept.dr ?_ (by with_reducible assumption))), (by repeat (first | with_reducible exact Kept.refl _ | with_reducible assumption | with_reducible refine Kept.setCell ?_ (by first | (simp; done) | (simp; omega) | omega) _ | with_reducible refine Kept.alloc ?_ _ | with_reducible refine Kept.drewN ?_ _ | with_reducible refine Kept.drew ?_ | with_reducible refine Kept.trans ?_ (by with_reducible assumption) | with_reducible refine Kept.dr ?_ (by with_reducible assumption)))⟩, by simp [intOf]; omega⟩
          · have g1 : 0 ≤ f := by omega
            have g2 : f ≤ 50000 := by omega
            have g3 : 0 ≤ t := by omega
            have g4 : t ≤ 1099511627776 := by omega
            clear k1
            have pp := FT.prod (f := f) (t := t) ⟨g1, g2, g3, g4⟩
            obtain ⟨pp0, pp1⟩ := pp
            by_cases k2 : l - x < f * t
            · go_wp2_with fail
              refine (burn_over _ _ _ _ _ _ (by omega) (by omega) (by omega) (by omega) (by omega) (by omega) (by omega) (by omega) (by omega) (by omega) (by omega) (by omega) (by omega) _).mono ?_
              rintro e wb ⟨rfl, hkb⟩
              refine kuse (b := w.heap.size) hkb (by first | (simp; done) | (simp; omega) | omega) ?_
              intro ga gb
              have gz : w.heap.size < wb.heap.size := by have := hkb.size; (try simp at this); omega
              refine kuse (b := wr.heap.size) hkb (by first | (simp; done) | (simp; omega) | omega) ?_
              intro gu gv
              have gy : wr.heap.size < wb.heap.size := by have := hkb.size; (try simp at this); omega
              go_wp2_with fail
              exact ⟨⟨k + 1, x, by omega, by go_num, x0, x1, Acc.kept HA.out (by repeat (first | with_reducible exact Kept.refl _ | with_reducible assumption | with_reducible refine Kept.setCell ?_ (by first | (simp; done) | (simp; omega) | omega) _ | with_reducible refine Kept.alloc ?_ _ | with_reducible refine Kept.drewN ?_ _ | with_reducible refine Kept.drew ?_ | with_reducible refine Kept.trans ?_ (by with_reducible assumption) | with_reducible refine Kept.dr ?_ (by with_reducible assumption))), (by repeat (first | with_reducible exact Kept.refl _ | with_reducible assumption | with_reducible refine Kept.setCell ?_ (by first | (simp; done) | (simp; omega) | omega) _ | with_reducible refine Kept.alloc ?_ _ | with_reducible refine Kept.drewN ?_ _ | with_reducible refine Kept.drew ?_ | with_reducible refine Kept.trans ?_ (by with_reducible assumption) | with_reducible refine Kept.dr ?_ (by with_reducible assumption)))⟩, by simp [intOf]; omega⟩
            · have g5 : f * t ≤ l - x := by omega
              clear k2
              go_wp2_with fail
              refine (burn_ok _ _ _ _ _ _ (by omega) (by omega) (by omega) (by omega) (by omega) (by omega) (by omega) (by omega) (by omega) (by omega) (by omega) (by omega) (by omega) _).mono ?_
              rintro e wb ⟨rfl, hkb⟩
              refine kuse (b := w.heap.size) hkb (by first | (simp; done) | (simp; omega) | omega) ?_
              intro ga gb
              have gz : w.heap.size < wb.heap.size := by have := hkb.size; (try simp at this); omega
              refine kuse (b := wr.heap.size) hkb (by first | (simp; done) | (simp; omega) | omega) ?_
              intro gu gv
              have gy : wr.heap.size < wb.heap.size := by have := hkb.size; (try simp at this); omega
              go_wp2_with fail
              have s0 : IntKind.i64.wrap (f * t) = f * t := wrp rfl (by omega) (by omega)
              have s1 : IntKind.i64.wrap (x + f * t - x) = f * t := wrp (by omega) (by omega) (by omega)
              have s2 : IntKind.i64.wrap (x + f * t + (l - (x + f * t))) = l := wrp (by omega) (by omega) (by omega)
              have s3 : IntKind.i64.wrap (e + (l - x) - (e + (l - (x + f * t)))) = f * t := wrp (by omega) (by omega) (by omega)
              first | (go_region_held3 (fun W => W.cell? ⟨w.heap.size, 0, none⟩ = some (.int .i64 e) ∧ W.cell? ⟨w.heap.size, 1, none⟩ = some (.int .i64 l) ∧ W.cell? ⟨w.heap.size, 2, none⟩ = some (.int .i64 r) ∧ W.cell? ⟨w.heap.size, 3, none⟩ = some (.int .i64 x) ∧ W.cell? ⟨wb.heap.size, 0, none⟩ = some (.int .i64 e) ∧ W.cell? ⟨wb.heap.size, 1, none⟩ = some (.int .i64 l) ∧ W.cell? ⟨wb.heap.size, 2, none⟩ = some (.int .i64 r) ∧ W.cell? ⟨wb.heap.size, 3, none⟩ = some (.int .i64 (x + f * t)) ∧ W.cell? ⟨wr.heap.size, 0, none⟩ = some (.int .i64 f) ∧ W.cell? ⟨wr.heap.size, 1, none⟩ = some (.int .i64 t)) (go_keep) (first | (go_at_call 14; refine (check_ok _ _ _ _ (by omega) (by omega) (by omega) (by omega) (by omega) (by omega) (by omega) (by omega) _).mono ?_; rintro e w' ⟨rfl, hk⟩; refine kuse (b := w.heap.size) hk (by first | (simp; done) | (simp; omega) | omega) ?_; intro hq0 hg0; have hy0 : w.heap.size < w'.heap.size := (by have := hk.size; (try simp at this); omega); refine kuse (b := wb.heap.size) hk (by first | (simp; done) | (simp; omega) | omega) ?_; intro hq1 hg1; have hy1 : wb.heap.size < w'.heap.size := (by have := hk.size; (try simp at this); omega); refine kuse (b := wr.heap.size) hk (by first | (simp; done) | (simp; omega) | omega) ?_; intro hq2 hg2; have hy2 : wr.heap.size < w'.heap.size := (by have := hk.size; (try simp at this); omega)) | (go_at_call 16; refine (left_ok _ _ _ _ (by omega) (by omega) (by omega) (by omega) (by omega) (by omega) (by omega) (by omega) _).mono ?_; rintro e w' ⟨rfl, hk⟩; refine kuse (b := w.heap.size) hk (by first | (simp; done) | (simp; omega) | omega) ?_; intro hq0 hg0; have hy0 : w.heap.size < w'.heap.size := (by have := hk.size; (try simp at this); omega); refine kuse (b := wb.heap.size) hk (by first | (simp; done) | (simp; omega) | omega) ?_; intro hq1 hg1; have hy1 : wb.heap.size < w'.heap.size := (by have := hk.size; (try simp at this); omega); refine kuse (b := wr.heap.size) hk (by first | (simp; done) | (simp; omega) | omega) ?_; intro hq2 hg2; have hy2 : wr.heap.size < w'.heap.size := (by have := hk.size; (try simp at this); omega)) | (go_at_call 18; refine (mass_ok _ _ _ _ (by omega) (by omega) (by omega) (by omega) (by omega) (by omega) (by omega) (by omega) _).mono ?_; rintro e w' ⟨rfl, hk⟩; refine kuse (b := w.heap.size) hk (by first | (simp; done) | (simp; omega) | omega) ?_; intro hq0 hg0; have hy0 : w.heap.size < w'.heap.size := (by have := hk.size; (try simp at this); omega); refine kuse (b := wb.heap.size) hk (by first | (simp; done) | (simp; omega) | omega) ?_; intro hq1 hg1; have hy1 : wb.heap.size < w'.heap.size := (by have := hk.size; (try simp at this); omega); refine kuse (b := wr.heap.size) hk (by first | (simp; done) | (simp; omega) | omega) ?_; intro hq2 hg2; have hy2 : wr.heap.size < w'.heap.size := (by have := hk.size; (try simp at this); omega)))) | fail
              all_goals go_wp2
              exact ⟨⟨k + 1, x + f * t, by omega, by go_num, by omega, by omega, (Acc.kept HA.out (by repeat (first | with_reducible exact Kept.refl _ | with_reducible assumption | with_reducible refine Kept.setCell ?_ (by first | (simp; done) | (simp; omega) | omega) _ | with_reducible refine Kept.alloc ?_ _ | with_reducible refine Kept.drewN ?_ _ | with_reducible refine Kept.drew ?_ | with_reducible refine Kept.trans ?_ (by with_reducible assumption) | with_reducible refine Kept.dr ?_ (by with_reducible assumption)))).store _, (by repeat (first | with_reducible exact Kept.refl _ | with_reducible assumption | with_reducible refine Kept.setCell ?_ (by first | (simp; done) | (simp; omega) | omega) _ | with_reducible refine Kept.alloc ?_ _ | with_reducible refine Kept.drewN ?_ _ | with_reducible refine Kept.drew ?_ | with_reducible refine Kept.trans ?_ (by with_reducible assumption) | with_reducible refine Kept.dr ?_ (by with_reducible assumption)))⟩, by simp [intOf]; omega⟩
      · obtain rfl : k = n1 := by omega
        go_wp2_with fail
        have s4 : IntKind.i64.wrap (e + (l - x)) = e + (l - x) := wrp rfl (by omega) (by omega)
        first | (go_region_held3 (fun W => W.cell? ⟨w.heap.size, 0, none⟩ = some (.int .i64 e) ∧ W.cell? ⟨w.heap.size, 1, none⟩ = some (.int .i64 l) ∧ W.cell? ⟨w.heap.size, 2, none⟩ = some (.int .i64 r) ∧ W.cell? ⟨w.heap.size, 3, none⟩ = some (.int .i64 x)) (go_keep) (first | (go_at_call 16; refine (left_ok _ _ _ _ (by omega) (by omega) (by omega) (by omega) (by omega) (by omega) (by omega) (by omega) _).mono ?_; rintro e w' ⟨rfl, hk⟩; refine kuse (b := w.heap.size) hk (by first | (simp; done) | (simp; omega) | omega) ?_; intro hq0 hg0; have hy0 : w.heap.size < w'.heap.size := (by have := hk.size; (try simp at this); omega)) | (go_at_call 18; refine (mass_ok _ _ _ _ (by omega) (by omega) (by omega) (by omega) (by omega) (by omega) (by omega) (by omega) _).mono ?_; rintro e w' ⟨rfl, hk⟩; refine kuse (b := w.heap.size) hk (by first | (simp; done) | (simp; omega) | omega) ?_; intro hq0 hg0; have hy0 : w.heap.size < w'.heap.size := (by have := hk.size; (try simp at this); omega)))) | fail
        all_goals go_wp2
        all_goals first | (go_ret; refine ⟨?_, (by repeat (first | with_reducible exact Kept.refl _ | with_reducible assumption | with_reducible refine Kept.setCell ?_ (by first | (simp; done) | (simp; omega) | omega) _ | with_reducible refine Kept.alloc ?_ _ | with_reducible refine Kept.drewN ?_ _ | with_reducible refine Kept.drew ?_ | with_reducible refine Kept.trans ?_ (by with_reducible assumption) | with_reducible refine Kept.dr ?_ (by with_reducible assumption)))⟩; first | rfl | (show Ending.returned (.bool (decide _)) = _; rw [decide_eq_true (by omega)]) | (show Ending.returned (.bool (decide _)) = _; rw [decide_eq_false (by omega)]) | (refine retb ?_; simp; done) | (refine retb ?_; simp; omega)) | (exfalso; omega)
  · have H : Hid (¬ AV e l r b) := Lib.hid hA
    clear hA
    go_enter Try.func6, Try.ntmps6
    go_wp2_with fail
    refine (awake_w _).mono ?_
    rintro e w1 ⟨rfl, hk1⟩
    refine kuse (b := w.heap.size) hk1 (by first | (simp; done) | (simp; omega) | omega) ?_
    intro ha1_0 hb1_0
    have hz1_0 : w.heap.size < w1.heap.size := by have := hk1.size; (try simp at this); omega
    go_wp2_with fail
    refine (check_bad _ _ _ _ (by omega) (by omega) (by omega) (by omega) (by omega) (by omega) (by omega) (by omega) H.out _).mono ?_
    rintro e w2 ⟨rfl, hk2⟩
    refine kuse (b := w.heap.size) hk2 (by first | (simp; done) | (simp; omega) | omega) ?_
    intro ha2_0 hb2_0
    have hz2_0 : w.heap.size < w2.heap.size := by have := hk2.size; (try simp at this); omega
    go_wp2_with fail
    refine (burn_bad _ _ _ _ _ _ (by omega) (by omega) (by omega) (by omega) (by omega) (by omega) (by omega) (by omega) (by omega) (by omega) (by omega) (by omega) H.out _).mono ?_
    rintro e w3 ⟨rfl, hk3⟩
    refine kuse (b := w.heap.size) hk3 (by first | (simp; done) | (simp; omega) | omega) ?_
    intro ha3_0 hb3_0
    have hz3_0 : w.heap.size < w3.heap.size := by have := hk3.size; (try simp at this); omega
    go_wp2_with fail
    all_goals first | (go_ret; refine ⟨?_, (by repeat (first | with_reducible exact Kept.refl _ | with_reducible assumption | with_reducible refine Kept.setCell ?_ (by first | (simp; done) | (simp; omega) | omega) _ | with_reducible refine Kept.alloc ?_ _ | with_reducible refine Kept.drewN ?_ _ | with_reducible refine Kept.drew ?_ | with_reducible refine Kept.trans ?_ (by with_reducible assumption) | with_reducible refine Kept.dr ?_ (by with_reducible assumption)))⟩; first | rfl | (show Ending.returned (.bool (decide _)) = _; rw [decide_eq_true (by omega)]) | (show Ending.returned (.bool (decide _)) = _; rw [decide_eq_false (by omega)]) | (refine retb ?_; simp; done) | (refine retb ?_; simp; omega)) | (exfalso; omega)
end Go.Proofs.Ytcchhmekmoekeaa
