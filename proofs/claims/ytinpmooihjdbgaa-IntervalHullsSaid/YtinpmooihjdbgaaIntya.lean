/-
  Own contracts: the document's sums, differences and widened intervals.
-/
import Derived.Test.YtinpmooihjdbgaaInty
import Derived.Test.YtinpmooihjdbgaaIntd
import Derived.WalkKit
import Derived.ProofKit
import Derived.OpenShut
import Derived.WalkLawsBesides
import Derived.WalkSpells
import Derived.Lib.Hide
import Derived.Deep.DeepCutAuto
import Derived.Deep.CutBlock
import Derived.Deep.QuietTactic
import Derived.BigQuiet
import Derived.Handy
import Derived.StillTailTactics
import Derived.IntWalk
import Derived.LoopN
import Derived.Deep.RegionHeld3
namespace Go.Proofs.Ytinpmooihjdbgaa
open Go.ChangeShapes Go.WideShapes Go.ChangeAt Go.RowKit
set_option linter.unusedVariables false
set_option linter.unusedSimpArgs false
def f2 (u v : Int) (i : Nat) : Int := if i = 0 then u else v
theorem mn2 (u v : Int) : mnR (f2 u v) 2 = min u v := by
  show min (min (f2 u v 0) (f2 u v 0)) (f2 u v 1) = _
  simp [f2]
theorem mx2 (u v : Int) : mxR (f2 u v) 2 = max u v := by
  show max (max (f2 u v 0) (f2 u v 0)) (f2 u v 1) = _
  simp [f2]
theorem sw_lit2 (W : World) (u v : Int) (T : TypeId) : SW (W.alloc (.cells #[.int .i64 (wh u), .int .u64 (wl u), .int .i64 (wh v), .int .u64 (wl v)] T)) W.heap.size 2 (f2 u v) := by
  refine ⟨fun i hi => ?_, fun i hi => ?_, fun o => by simp [go_sem], by simp⟩
  · have : i = 0 ∨ i = 1 := by omega
    rcases this with rfl | rfl <;> simp [go_sem, f2]
  · have : i = 0 ∨ i = 1 := by omega
    rcases this with rfl | rfl <;> simp [go_sem, f2]
theorem sw_lit2E (W : World) (u v : Int) (T : TypeId) (b : Nat) (h : b = W.heap.size) : SW (W.alloc (.cells #[.int .i64 (wh u), .int .u64 (wl u), .int .i64 (wh v), .int .u64 (wl v)] T)) b 2 (f2 u v) := h ▸ sw_lit2 W u v T
set_option maxHeartbeats 2000000 in
set_option maxRecDepth 100000 in
theorem ref_ex2_ok (b c : Nat) (u v l g : Int) (hl : Hid (min u v = l)) (hg : Hid (max u v = g)) (k0 : -4611686018427387904 ≤ l) (k1 : l ≤ g) (k2 : g ≤ 4611686018427387904) (w : World) (hA : SW w b 2 (f2 u v)) : Calls Try.prog 58 #[.slice (some ⟨b, 0, none⟩) 2 c] w fun e w' => e = .returned (.tuple #[.agg #[.int .i64 l, .int .i64 g], .int .i64 0]) ∧ Kept w w' := by
  have HM := fun W (hk : Kept w W) => ref_made_ok 2 b c b c (f2 u v) (f2 u v) (by omega) (by omega) l g (Lib.hid ((mn2 u v).trans hl.out)) (Lib.hid ((mx2 u v).trans hg.out)) k0 k1 k2 W (hA.kept hk) (hA.kept hk)
  have H := Lib.hid HM
  clear HM hl hg hA
  go_enter Try.func58, Try.ntmps58
  go_wp2_with fail
  refine (H.out _ (by repeat (first | with_reducible exact Kept.refl _ | with_reducible assumption | with_reducible refine Kept.setCell ?_ (by first | (simp; done) | (simp; omega) | omega) _ | with_reducible refine Kept.alloc ?_ _ | with_reducible refine Kept.drewN ?_ _ | with_reducible refine Kept.drew ?_ | with_reducible refine Kept.trans ?_ (by with_reducible assumption) | with_reducible refine Kept.dr ?_ (by with_reducible assumption)))).mono ?_
  rintro e w1 ⟨rfl, hk1⟩
  refine kuz (b := w.heap.size) hk1 (by first | (simp; done) | (simp; omega) | omega) ?_
  intro ha hb hz1_0 hn1_0 hm1_0
  have hf1_0_0 : w1.cell? ⟨w.heap.size, 0, none⟩ = some (.int .i64 0) := (ha _).trans (by first | with_reducible assumption | (simp (maxDischargeDepth := 7) [go_sem]; done) | (simp (maxDischargeDepth := 7) [go_sem, *]; done))
  have hf1_0_1 : w1.cell? ⟨w.heap.size, 1, none⟩ = some (.int .i64 0) := (ha _).trans (by first | with_reducible assumption | (simp (maxDischargeDepth := 7) [go_sem]; done) | (simp (maxDischargeDepth := 7) [go_sem, *]; done))
  try have hg1_0 : ∀ o, w1.frozen? ⟨w.heap.size, o, none⟩ = false := by intro o; rw [hb]; first | (simp (maxDischargeDepth := 7) [go_sem]; done) | (simp (maxDischargeDepth := 7) [go_sem, *]; done)
  clear ha hb
  go_wp2_with fail
  all_goals exact bodyPost_ret (v := .tuple #[.agg #[.int .i64 l, .int .i64 g], .int .i64 0]) (by first | (simp [results, Try.results58, go_sem]; done) | (simp (maxDischargeDepth := 7) [results, Try.results58, go_sem, *]; done)) rfl ⟨rfl, (by repeat (first | with_reducible exact Kept.refl _ | with_reducible assumption | with_reducible refine Kept.setCell ?_ (by first | (simp; done) | (simp; omega) | omega) _ | with_reducible refine Kept.alloc ?_ _ | with_reducible refine Kept.drewN ?_ _ | with_reducible refine Kept.drew ?_ | with_reducible refine Kept.trans ?_ (by with_reducible assumption) | with_reducible refine Kept.dr ?_ (by with_reducible assumption)))⟩
set_option maxHeartbeats 2000000 in
set_option maxRecDepth 100000 in
theorem ref_ex2_bad (b c : Nat) (u v l g : Int) (hl : Hid (min u v = l)) (hg : Hid (max u v = g)) (kb : l < -4611686018427387904 ∨ 4611686018427387904 < g ∨ g < l) (w : World) (hA : SW w b 2 (f2 u v)) : Calls Try.prog 58 #[.slice (some ⟨b, 0, none⟩) 2 c] w fun e w' => e = .returned (.tuple #[.agg #[.int .i64 0, .int .i64 0], .int .i64 2]) ∧ Kept w w' := by
  have HM := fun W (hk : Kept w W) => ref_made_bad 2 b c b c (f2 u v) (f2 u v) (by omega) (by omega) l g (Lib.hid ((mn2 u v).trans hl.out)) (Lib.hid ((mx2 u v).trans hg.out)) kb W (hA.kept hk) (hA.kept hk)
  have H := Lib.hid HM
  clear HM hl hg hA
  go_enter Try.func58, Try.ntmps58
  go_wp2_with fail
  refine (H.out _ (by repeat (first | with_reducible exact Kept.refl _ | with_reducible assumption | with_reducible refine Kept.setCell ?_ (by first | (simp; done) | (simp; omega) | omega) _ | with_reducible refine Kept.alloc ?_ _ | with_reducible refine Kept.drewN ?_ _ | with_reducible refine Kept.drew ?_ | with_reducible refine Kept.trans ?_ (by with_reducible assumption) | with_reducible refine Kept.dr ?_ (by with_reducible assumption)))).mono ?_
  rintro e w1 ⟨rfl, hk1⟩
  refine kuz (b := w.heap.size) hk1 (by first | (simp; done) | (simp; omega) | omega) ?_
  intro ha hb hz1_0 hn1_0 hm1_0
  have hf1_0_0 : w1.cell? ⟨w.heap.size, 0, none⟩ = some (.int .i64 0) := (ha _).trans (by first | with_reducible assumption | (simp (maxDischargeDepth := 7) [go_sem]; done) | (simp (maxDischargeDepth := 7) [go_sem, *]; done))
  have hf1_0_1 : w1.cell? ⟨w.heap.size, 1, none⟩ = some (.int .i64 0) := (ha _).trans (by first | with_reducible assumption | (simp (maxDischargeDepth := 7) [go_sem]; done) | (simp (maxDischargeDepth := 7) [go_sem, *]; done))
  try have hg1_0 : ∀ o, w1.frozen? ⟨w.heap.size, o, none⟩ = false := by intro o; rw [hb]; first | (simp (maxDischargeDepth := 7) [go_sem]; done) | (simp (maxDischargeDepth := 7) [go_sem, *]; done)
  clear ha hb
  go_wp2_with fail
  all_goals exact bodyPost_ret (v := .tuple #[.agg #[.int .i64 0, .int .i64 0], .int .i64 2]) (by first | (simp [results, Try.results58, go_sem]; done) | (simp (maxDischargeDepth := 7) [results, Try.results58, go_sem, *]; done)) rfl ⟨rfl, (by repeat (first | with_reducible exact Kept.refl _ | with_reducible assumption | with_reducible refine Kept.setCell ?_ (by first | (simp; done) | (simp; omega) | omega) _ | with_reducible refine Kept.alloc ?_ _ | with_reducible refine Kept.drewN ?_ _ | with_reducible refine Kept.drew ?_ | with_reducible refine Kept.trans ?_ (by with_reducible assumption) | with_reducible refine Kept.dr ?_ (by with_reducible assumption)))⟩
theorem radd_ok (u v s : Int) (u0 : -9223372036854775808 ≤ u) (u1 : u ≤ 9223372036854775807) (v0 : -9223372036854775808 ≤ v) (v1 : v ≤ 9223372036854775807) (hs : u + v = s) (w : World) : Calls Try.prog 56 #[.agg #[.int .i64 (wh (u)), .int .u64 (wl (u))], .agg #[.int .i64 (wh (v)), .int .u64 (wl (v))]] w fun e w' => e = .returned (.tuple #[.agg #[.int .i64 (wh (s)), .int .u64 (wl (s))], .bool true]) ∧ Kept w w' := by
  have h := refw_add_w u v (by omega) (by omega) (by omega) (by omega) w
  rw [hs, (wfit_yes (u := s) (by omega) (by omega)).1, (wfit_yes (u := s) (by omega) (by omega)).2] at h
  exact h
theorem rsub_ok (u v s : Int) (u0 : -9223372036854775808 ≤ u) (u1 : u ≤ 9223372036854775807) (v0 : -9223372036854775808 ≤ v) (v1 : v ≤ 9223372036854775807) (hs : u - v = s) (w : World) : Calls Try.prog 60 #[.agg #[.int .i64 (wh (u)), .int .u64 (wl (u))], .agg #[.int .i64 (wh (v)), .int .u64 (wl (v))]] w fun e w' => e = .returned (.tuple #[.agg #[.int .i64 (wh (s)), .int .u64 (wl (s))], .bool true]) ∧ Kept w w' := by
  have h := refw_sub_w u v (by omega) (by omega) (by omega) (by omega) w
  rw [hs, (wfit_yes (u := s) (by omega) (by omega)).1, (wfit_yes (u := s) (by omega) (by omega)).2] at h
  exact h
set_option maxHeartbeats 4000000 in
set_option maxRecDepth 100000 in
theorem ref_iadd_ok (a b c d : Int) (x1 : a ≤ b) (x2 : -4611686018427387904 ≤ a) (x3 : b ≤ 4611686018427387904) (y1 : c ≤ d) (y2 : -4611686018427387904 ≤ c) (y3 : d ≤ 4611686018427387904) (k1 : -4611686018427387904 ≤ a + c) (k3 : b + d ≤ 4611686018427387904) (w : World) : Calls Try.prog 25 #[.agg #[.int .i64 a, .int .i64 b], .agg #[.int .i64 c, .int .i64 d]] w fun e w' => e = .returned (.tuple #[.agg #[.int .i64 (a + c), .int .i64 (b + d)], .int .i64 0]) ∧ Kept w w' := by
  obtain ⟨s, hs⟩ : ∃ s, a + c = s := ⟨_, rfl⟩
  obtain ⟨t, ht⟩ : ∃ t, b + d = t := ⟨_, rfl⟩
  have HA1 := Lib.hid (radd_ok a c s (by omega) (by omega) (by omega) (by omega) hs)
  have HA2 := Lib.hid (radd_ok b d t (by omega) (by omega) (by omega) (by omega) ht)
  have HO1 := Lib.hid (ref_of_w a (by omega) (by omega))
  have HO2 := Lib.hid (ref_of_w c (by omega) (by omega))
  have HO3 := Lib.hid (ref_of_w b (by omega) (by omega))
  have HO4 := Lib.hid (ref_of_w d (by omega) (by omega))
  have HV1 := Lib.hid (ref_valid_ok a b x1 x2 x3)
  have HV2 := Lib.hid (ref_valid_ok c d y1 y2 y3)
  have k0 : -4611686018427387904 ≤ s := by omega
  have k2 : t ≤ 4611686018427387904 := by omega
  have kst : s ≤ t := by omega
  have HL := Lib.hid (show min s t = s by omega)
  have HG := Lib.hid (show max s t = t by omega)
  have HE := Lib.hid (fun b c => ref_ex2_ok b c s t s t HL HG k0 kst k2)
  rw [hs, ht]
  clear hs ht HL HG
  clear x1 x2 x3 y1 y2 y3 kst k0 k2 k1 k3
  go_enter Try.func25, Try.ntmps25
  go_wp2_with fail
  with_reducible refine (HV1.out _).mono ?_
  rintro e w1 ⟨rfl, hk1⟩
  refine kuz (b := w.heap.size) hk1 (by first | (simp; done) | (simp; omega) | omega) ?_
  intro ha hb hz1_0 hn1_0 hm1_0
  have hf1_0_0 : w1.cell? ⟨w.heap.size, 0, none⟩ = some (.int .i64 a) := (ha _).trans (by first | with_reducible assumption | (simp (maxDischargeDepth := 7) [go_sem]; done) | (simp (maxDischargeDepth := 7) [go_sem, *]; done))
  have hf1_0_1 : w1.cell? ⟨w.heap.size, 1, none⟩ = some (.int .i64 b) := (ha _).trans (by first | with_reducible assumption | (simp (maxDischargeDepth := 7) [go_sem]; done) | (simp (maxDischargeDepth := 7) [go_sem, *]; done))
  try have hg1_0 : ∀ o, w1.frozen? ⟨w.heap.size, o, none⟩ = false := by intro o; rw [hb]; first | (simp (maxDischargeDepth := 7) [go_sem]; done) | (simp (maxDischargeDepth := 7) [go_sem, *]; done)
  clear ha hb
  refine kuz (b := w.heap.size + 1) hk1 (by first | (simp; done) | (simp; omega) | omega) ?_
  intro ha hb hz1_1 hn1_1 hm1_1
  have hf1_1_0 : w1.cell? ⟨w.heap.size + 1, 0, none⟩ = some (.int .i64 c) := (ha _).trans (by first | with_reducible assumption | (simp (maxDischargeDepth := 7) [go_sem]; done) | (simp (maxDischargeDepth := 7) [go_sem, *]; done))
  have hf1_1_1 : w1.cell? ⟨w.heap.size + 1, 1, none⟩ = some (.int .i64 d) := (ha _).trans (by first | with_reducible assumption | (simp (maxDischargeDepth := 7) [go_sem]; done) | (simp (maxDischargeDepth := 7) [go_sem, *]; done))
  try have hg1_1 : ∀ o, w1.frozen? ⟨w.heap.size + 1, o, none⟩ = false := by intro o; rw [hb]; first | (simp (maxDischargeDepth := 7) [go_sem]; done) | (simp (maxDischargeDepth := 7) [go_sem, *]; done)
  clear ha hb
  refine kuz (b := w.heap.size + 2) hk1 (by first | (simp; done) | (simp; omega) | omega) ?_
  intro ha hb hz1_2 hn1_2 hm1_2
  have hf1_2_0 : w1.cell? ⟨w.heap.size + 2, 0, none⟩ = some (.int .i64 0) := (ha _).trans (by first | with_reducible assumption | (simp (maxDischargeDepth := 7) [go_sem]; done) | (simp (maxDischargeDepth := 7) [go_sem, *]; done))
  have hf1_2_1 : w1.cell? ⟨w.heap.size + 2, 1, none⟩ = some (.int .i64 0) := (ha _).trans (by first | with_reducible assumption | (simp (maxDischargeDepth := 7) [go_sem]; done) | (simp (maxDischargeDepth := 7) [go_sem, *]; done))
  try have hg1_2 : ∀ o, w1.frozen? ⟨w.heap.size + 2, o, none⟩ = false := by intro o; rw [hb]; first | (simp (maxDischargeDepth := 7) [go_sem]; done) | (simp (maxDischargeDepth := 7) [go_sem, *]; done)
  clear ha hb
  go_wp2_with fail
  with_reducible refine (HV2.out _).mono ?_
  rintro e w2 ⟨rfl, hk2⟩
  refine kuz (b := w.heap.size) hk2 (by first | (simp; done) | (simp; omega) | omega) ?_
  intro ha hb hz2_0 hn2_0 hm2_0
  have hf2_0_0 : w2.cell? ⟨w.heap.size, 0, none⟩ = some (.int .i64 a) := (ha _).trans (by first | with_reducible assumption | (simp (maxDischargeDepth := 7) [go_sem]; done) | (simp (maxDischargeDepth := 7) [go_sem, *]; done))
  have hf2_0_1 : w2.cell? ⟨w.heap.size, 1, none⟩ = some (.int .i64 b) := (ha _).trans (by first | with_reducible assumption | (simp (maxDischargeDepth := 7) [go_sem]; done) | (simp (maxDischargeDepth := 7) [go_sem, *]; done))
  try have hg2_0 : ∀ o, w2.frozen? ⟨w.heap.size, o, none⟩ = false := by intro o; rw [hb]; first | (simp (maxDischargeDepth := 7) [go_sem]; done) | (simp (maxDischargeDepth := 7) [go_sem, *]; done)
  clear ha hb
  refine kuz (b := w.heap.size + 1) hk2 (by first | (simp; done) | (simp; omega) | omega) ?_
  intro ha hb hz2_1 hn2_1 hm2_1
  have hf2_1_0 : w2.cell? ⟨w.heap.size + 1, 0, none⟩ = some (.int .i64 c) := (ha _).trans (by first | with_reducible assumption | (simp (maxDischargeDepth := 7) [go_sem]; done) | (simp (maxDischargeDepth := 7) [go_sem, *]; done))
  have hf2_1_1 : w2.cell? ⟨w.heap.size + 1, 1, none⟩ = some (.int .i64 d) := (ha _).trans (by first | with_reducible assumption | (simp (maxDischargeDepth := 7) [go_sem]; done) | (simp (maxDischargeDepth := 7) [go_sem, *]; done))
  try have hg2_1 : ∀ o, w2.frozen? ⟨w.heap.size + 1, o, none⟩ = false := by intro o; rw [hb]; first | (simp (maxDischargeDepth := 7) [go_sem]; done) | (simp (maxDischargeDepth := 7) [go_sem, *]; done)
  clear ha hb
  refine kuz (b := w.heap.size + 2) hk2 (by first | (simp; done) | (simp; omega) | omega) ?_
  intro ha hb hz2_2 hn2_2 hm2_2
  have hf2_2_0 : w2.cell? ⟨w.heap.size + 2, 0, none⟩ = some (.int .i64 0) := (ha _).trans (by first | with_reducible assumption | (simp (maxDischargeDepth := 7) [go_sem]; done) | (simp (maxDischargeDepth := 7) [go_sem, *]; done))
  have hf2_2_1 : w2.cell? ⟨w.heap.size + 2, 1, none⟩ = some (.int .i64 0) := (ha _).trans (by first | with_reducible assumption | (simp (maxDischargeDepth := 7) [go_sem]; done) | (simp (maxDischargeDepth := 7) [go_sem, *]; done))
  try have hg2_2 : ∀ o, w2.frozen? ⟨w.heap.size + 2, o, none⟩ = false := by intro o; rw [hb]; first | (simp (maxDischargeDepth := 7) [go_sem]; done) | (simp (maxDischargeDepth := 7) [go_sem, *]; done)
  clear ha hb
  try clear hf1_0_0
  try clear hf1_0_1
  try clear hf1_1_0
  try clear hf1_1_1
  try clear hf1_2_0
  try clear hf1_2_1
  try clear hg1_0
  try clear hg1_1
  try clear hg1_2
  try clear hz1_1
  try clear hz1_2
  go_wp2_with fail
  have B0 : OwnB w2 (w.heap.size) [.int .i64 a, .int .i64 b] := ⟨hz2_0, hg2_0, hf2_0_0, hf2_0_1, trivial⟩
  have HB0_0 := Lib.hid B0
  clear B0
  have B1 : OwnB w2 (w.heap.size + 1) [.int .i64 c, .int .i64 d] := ⟨hz2_1, hg2_1, hf2_1_0, hf2_1_1, trivial⟩
  have HB0_1 := Lib.hid B1
  clear B1
  have B2 : OwnB w2 (w.heap.size + 2) [.int .i64 0, .int .i64 0] := ⟨hz2_2, hg2_2, hf2_2_0, hf2_2_1, trivial⟩
  have HB0_2 := Lib.hid B2
  clear B2
  go_upto_region 3 with (fail)
  go_cut [6, 7] (fun p0 c0 wx => ∃ b0 : Nat, p0 = .pointer (some ⟨b0, 0, none⟩) ∧ c0 = .bool true ∧ w.heap.size + 2 < b0 ∧ OwnB wx (b0) [.int .i64 (wh (s)), .int .u64 (wl (s))] ∧ OwnB wx (w.heap.size) [.int .i64 a, .int .i64 b] ∧ OwnB wx (w.heap.size + 1) [.int .i64 c, .int .i64 d] ∧ OwnB wx (w.heap.size + 2) [.int .i64 0, .int .i64 0] ∧ Kept w2 wx)
  case first =>
    go_region_held3 (fun W => W.cell? ⟨w.heap.size, 0, none⟩ = some (.int .i64 a) ∧ W.cell? ⟨w.heap.size, 1, none⟩ = some (.int .i64 b) ∧ W.cell? ⟨w.heap.size + 1, 0, none⟩ = some (.int .i64 c) ∧ W.cell? ⟨w.heap.size + 1, 1, none⟩ = some (.int .i64 d)) (first | (go_keep; done) | (simp (maxDischargeDepth := 9) [*, World.cell?_alloc_some, World.cell?_setCell_far]; done) | (simp (maxDischargeDepth := 9) [go_sem, *]; done)) (first | (go_at_call 57; (with_reducible refine (HO1.out _).mono ?_); rintro e u0 ⟨rfl, hk⟩; have hz := hk.size; (try (refine kuse (b := w.heap.size) hk (by first | (simp; done) | (simp; omega) | omega) ?_; intro hq hg; have hy : w.heap.size < u0.heap.size := (by (try simp at hz); omega); have hn : ¬ w.heap.size = u0.heap.size := (by omega); have hm : ¬ w.heap.size = u0.heap.size + 1 := (by omega); have hn' : ¬ u0.heap.size = w.heap.size := (by omega); have hm' : ¬ u0.heap.size + 1 = w.heap.size := (by omega))); (try (refine kuse (b := w.heap.size + 1) hk (by first | (simp; done) | (simp; omega) | omega) ?_; intro hq hg; have hy : w.heap.size + 1 < u0.heap.size := (by (try simp at hz); omega); have hn : ¬ w.heap.size + 1 = u0.heap.size := (by omega); have hm : ¬ w.heap.size + 1 = u0.heap.size + 1 := (by omega); have hn' : ¬ u0.heap.size = w.heap.size + 1 := (by omega); have hm' : ¬ u0.heap.size + 1 = w.heap.size + 1 := (by omega))); (try (refine kuse (b := w.heap.size + 2) hk (by first | (simp; done) | (simp; omega) | omega) ?_; intro hq hg; have hy : w.heap.size + 2 < u0.heap.size := (by (try simp at hz); omega); have hn : ¬ w.heap.size + 2 = u0.heap.size := (by omega); have hm : ¬ w.heap.size + 2 = u0.heap.size + 1 := (by omega); have hn' : ¬ u0.heap.size = w.heap.size + 2 := (by omega); have hm' : ¬ u0.heap.size + 1 = w.heap.size + 2 := (by omega))); (try (have hle : w1.heap.size ≤ u0.heap.size := (by (try simp at hz); omega))); (try (have hle : w2.heap.size ≤ u0.heap.size := (by (try simp at hz); omega))); (try (refine kuse (b := w2.heap.size) hk (by first | (simp; done) | (simp; omega) | omega) ?_; intro hq hg; have hy : w2.heap.size < u0.heap.size := (by (try simp at hz); omega))); (try (refine withF (p := u0.cell? ⟨w.heap.size, 0, none⟩ = some (.int .i64 a)) (by first | (simp (maxDischargeDepth := 7) [go_sem, *]; done) | fail) ?_; intro ff)); (try (refine withF (p := u0.cell? ⟨w.heap.size, 1, none⟩ = some (.int .i64 b)) (by first | (simp (maxDischargeDepth := 7) [go_sem, *]; done) | fail) ?_; intro ff)); (try (refine withF (p := u0.cell? ⟨w.heap.size + 1, 0, none⟩ = some (.int .i64 c)) (by first | (simp (maxDischargeDepth := 7) [go_sem, *]; done) | fail) ?_; intro ff)); (try (refine withF (p := u0.cell? ⟨w.heap.size + 1, 1, none⟩ = some (.int .i64 d)) (by first | (simp (maxDischargeDepth := 7) [go_sem, *]; done) | fail) ?_; intro ff))) | (go_at_call 57; (with_reducible refine (HO2.out _).mono ?_); rintro e u1 ⟨rfl, hk⟩; have hz := hk.size; (try (refine kuse (b := w.heap.size) hk (by first | (simp; done) | (simp; omega) | omega) ?_; intro hq hg; have hy : w.heap.size < u1.heap.size := (by (try simp at hz); omega); have hn : ¬ w.heap.size = u1.heap.size := (by omega); have hm : ¬ w.heap.size = u1.heap.size + 1 := (by omega); have hn' : ¬ u1.heap.size = w.heap.size := (by omega); have hm' : ¬ u1.heap.size + 1 = w.heap.size := (by omega))); (try (refine kuse (b := w.heap.size + 1) hk (by first | (simp; done) | (simp; omega) | omega) ?_; intro hq hg; have hy : w.heap.size + 1 < u1.heap.size := (by (try simp at hz); omega); have hn : ¬ w.heap.size + 1 = u1.heap.size := (by omega); have hm : ¬ w.heap.size + 1 = u1.heap.size + 1 := (by omega); have hn' : ¬ u1.heap.size = w.heap.size + 1 := (by omega); have hm' : ¬ u1.heap.size + 1 = w.heap.size + 1 := (by omega))); (try (refine kuse (b := w.heap.size + 2) hk (by first | (simp; done) | (simp; omega) | omega) ?_; intro hq hg; have hy : w.heap.size + 2 < u1.heap.size := (by (try simp at hz); omega); have hn : ¬ w.heap.size + 2 = u1.heap.size := (by omega); have hm : ¬ w.heap.size + 2 = u1.heap.size + 1 := (by omega); have hn' : ¬ u1.heap.size = w.heap.size + 2 := (by omega); have hm' : ¬ u1.heap.size + 1 = w.heap.size + 2 := (by omega))); (try (have hle : w1.heap.size ≤ u1.heap.size := (by (try simp at hz); omega))); (try (have hle : w2.heap.size ≤ u1.heap.size := (by (try simp at hz); omega))); (try (have hle : u0.heap.size ≤ u1.heap.size := (by (try simp at hz); omega))); (try (refine kuse (b := u0.heap.size) hk (by first | (simp; done) | (simp; omega) | omega) ?_; intro hq hg; have hy : u0.heap.size < u1.heap.size := (by (try simp at hz); omega))); (try (refine kuse (b := w2.heap.size) hk (by first | (simp; done) | (simp; omega) | omega) ?_; intro hq hg; have hy : w2.heap.size < u1.heap.size := (by (try simp at hz); omega))); (try (refine withF (p := u1.cell? ⟨w.heap.size, 0, none⟩ = some (.int .i64 a)) (by first | (simp (maxDischargeDepth := 7) [go_sem, *]; done) | fail) ?_; intro ff)); (try (refine withF (p := u1.cell? ⟨w.heap.size, 1, none⟩ = some (.int .i64 b)) (by first | (simp (maxDischargeDepth := 7) [go_sem, *]; done) | fail) ?_; intro ff)); (try (refine withF (p := u1.cell? ⟨w.heap.size + 1, 0, none⟩ = some (.int .i64 c)) (by first | (simp (maxDischargeDepth := 7) [go_sem, *]; done) | fail) ?_; intro ff)); (try (refine withF (p := u1.cell? ⟨w.heap.size + 1, 1, none⟩ = some (.int .i64 d)) (by first | (simp (maxDischargeDepth := 7) [go_sem, *]; done) | fail) ?_; intro ff))) | (go_at_call 56; (with_reducible refine (HA1.out _).mono ?_); rintro e u2 ⟨rfl, hk⟩; have hz := hk.size; (try (refine kuse (b := w.heap.size) hk (by first | (simp; done) | (simp; omega) | omega) ?_; intro hq hg; have hy : w.heap.size < u2.heap.size := (by (try simp at hz); omega); have hn : ¬ w.heap.size = u2.heap.size := (by omega); have hm : ¬ w.heap.size = u2.heap.size + 1 := (by omega); have hn' : ¬ u2.heap.size = w.heap.size := (by omega); have hm' : ¬ u2.heap.size + 1 = w.heap.size := (by omega))); (try (refine kuse (b := w.heap.size + 1) hk (by first | (simp; done) | (simp; omega) | omega) ?_; intro hq hg; have hy : w.heap.size + 1 < u2.heap.size := (by (try simp at hz); omega); have hn : ¬ w.heap.size + 1 = u2.heap.size := (by omega); have hm : ¬ w.heap.size + 1 = u2.heap.size + 1 := (by omega); have hn' : ¬ u2.heap.size = w.heap.size + 1 := (by omega); have hm' : ¬ u2.heap.size + 1 = w.heap.size + 1 := (by omega))); (try (refine kuse (b := w.heap.size + 2) hk (by first | (simp; done) | (simp; omega) | omega) ?_; intro hq hg; have hy : w.heap.size + 2 < u2.heap.size := (by (try simp at hz); omega); have hn : ¬ w.heap.size + 2 = u2.heap.size := (by omega); have hm : ¬ w.heap.size + 2 = u2.heap.size + 1 := (by omega); have hn' : ¬ u2.heap.size = w.heap.size + 2 := (by omega); have hm' : ¬ u2.heap.size + 1 = w.heap.size + 2 := (by omega))); (try (have hle : w1.heap.size ≤ u2.heap.size := (by (try simp at hz); omega))); (try (have hle : w2.heap.size ≤ u2.heap.size := (by (try simp at hz); omega))); (try (have hle : u0.heap.size ≤ u2.heap.size := (by (try simp at hz); omega))); (try (have hle : u1.heap.size ≤ u2.heap.size := (by (try simp at hz); omega))); (try (refine kuse (b := u0.heap.size) hk (by first | (simp; done) | (simp; omega) | omega) ?_; intro hq hg; have hy : u0.heap.size < u2.heap.size := (by (try simp at hz); omega))); (try (refine kuse (b := u1.heap.size) hk (by first | (simp; done) | (simp; omega) | omega) ?_; intro hq hg; have hy : u1.heap.size < u2.heap.size := (by (try simp at hz); omega))); (try (refine kuse (b := w2.heap.size) hk (by first | (simp; done) | (simp; omega) | omega) ?_; intro hq hg; have hy : w2.heap.size < u2.heap.size := (by (try simp at hz); omega))); (try (refine withF (p := u2.cell? ⟨w.heap.size, 0, none⟩ = some (.int .i64 a)) (by first | (simp (maxDischargeDepth := 7) [go_sem, *]; done) | fail) ?_; intro ff)); (try (refine withF (p := u2.cell? ⟨w.heap.size, 1, none⟩ = some (.int .i64 b)) (by first | (simp (maxDischargeDepth := 7) [go_sem, *]; done) | fail) ?_; intro ff)); (try (refine withF (p := u2.cell? ⟨w.heap.size + 1, 0, none⟩ = some (.int .i64 c)) (by first | (simp (maxDischargeDepth := 7) [go_sem, *]; done) | fail) ?_; intro ff)); (try (refine withF (p := u2.cell? ⟨w.heap.size + 1, 1, none⟩ = some (.int .i64 d)) (by first | (simp (maxDischargeDepth := 7) [go_sem, *]; done) | fail) ?_; intro ff))))
    all_goals (try go_wp2_with fail)
    all_goals (go_meet; case rel => refine (fun (hkx : Kept w2 _) => ⟨_, rfl, rfl, (by first | with_reducible assumption | omega | (simp; omega)), (by repeat (first | with_reducible exact own_alloc _ [.int .i64 (wh (s)), .int .u64 (wl (s))] 45 | with_reducible exact own_alloc _ [.int .i64 0, .int .u64 0] 45 | ((with_reducible refine own_allocE _ [.int .i64 (wh (s)), .int .u64 (wl (s))] 45 _ ?_); (simp; done)) | ((with_reducible refine own_allocE _ [.int .i64 0, .int .u64 0] 45 _ ?_); (simp; done)) | with_reducible refine own_set2 (us := [.int .i64 0, .int .u64 0]) ?_ rfl | with_reducible refine OwnB.other2 ?_ (by first | with_reducible assumption | omega | (simp; done) | (simp; omega)) | with_reducible refine OwnB.alloc ?_ _ | with_reducible refine OwnB.drew ?_ | with_reducible refine OwnB.drewN ?_ _ | with_reducible refine OwnB.kept (by with_reducible assumption) ?_)), OwnB.kept hkx HB0_0.out, OwnB.kept hkx HB0_1.out, OwnB.kept hkx HB0_2.out, hkx⟩) ?_; exact (by repeat (first | with_reducible exact Kept.refl _ | with_reducible assumption | with_reducible refine Kept.set12 ?_ (by first | with_reducible assumption | omega | (simp; done) | (simp; omega)) | with_reducible refine Kept.set11 ?_ (by first | with_reducible assumption | omega | (simp; done) | (simp; omega)) | with_reducible refine Kept.set10 ?_ (by first | with_reducible assumption | omega | (simp; done) | (simp; omega)) | with_reducible refine Kept.set9 ?_ (by first | with_reducible assumption | omega | (simp; done) | (simp; omega)) | with_reducible refine Kept.set8 ?_ (by first | with_reducible assumption | omega | (simp; done) | (simp; omega)) | with_reducible refine Kept.set7 ?_ (by first | with_reducible assumption | omega | (simp; done) | (simp; omega)) | with_reducible refine Kept.set6 ?_ (by first | with_reducible assumption | omega | (simp; done) | (simp; omega)) | with_reducible refine Kept.set5 ?_ (by first | with_reducible assumption | omega | (simp; done) | (simp; omega)) | with_reducible refine Kept.set4 ?_ (by first | with_reducible assumption | omega | (simp; done) | (simp; omega)) | with_reducible refine Kept.set3 ?_ (by first | with_reducible assumption | omega | (simp; done) | (simp; omega)) | with_reducible refine Kept.set2 ?_ (by first | with_reducible assumption | omega | (simp; done) | (simp; omega)) | with_reducible refine Kept.setCell ?_ (by first | with_reducible assumption | omega | (simp; done) | (simp; omega)) _ | with_reducible refine Kept.alloc ?_ _ | with_reducible refine Kept.drewN ?_ _ | with_reducible refine Kept.drew ?_ | with_reducible refine Kept.trans ?_ (by with_reducible assumption) | with_reducible refine Kept.dr ?_ (by with_reducible assumption))))
  case rest =>
  obtain ⟨b1_0, rfl, rfl, lt1_0, O1_0, O1_1, O1_2, O1_3, hkc1⟩ := hcut
  obtain ⟨hz_c1_0, hg_c1_0, hf_c1_0_0, hf_c1_0_1, _⟩ := O1_0
  obtain ⟨hz_c1_1, hg_c1_1, hf_c1_1_0, hf_c1_1_1, _⟩ := O1_1
  obtain ⟨hz_c1_2, hg_c1_2, hf_c1_2_0, hf_c1_2_1, _⟩ := O1_2
  obtain ⟨hz_c1_3, hg_c1_3, hf_c1_3_0, hf_c1_3_1, _⟩ := O1_3
  try clear hf2_0_0
  try clear hf2_0_1
  try clear hf2_1_0
  try clear hf2_1_1
  try clear hf2_2_0
  try clear hf2_2_1
  try clear hg2_0
  try clear hg2_1
  try clear hg2_2
  try clear hz2_1
  try clear hz2_2
  have B0 : OwnB wc (b1_0) [.int .i64 (wh (s)), .int .u64 (wl (s))] := ⟨hz_c1_0, hg_c1_0, hf_c1_0_0, hf_c1_0_1, trivial⟩
  have HB1_0 := Lib.hid B0
  clear B0
  have B1 : OwnB wc (w.heap.size) [.int .i64 a, .int .i64 b] := ⟨hz_c1_1, hg_c1_1, hf_c1_1_0, hf_c1_1_1, trivial⟩
  have HB1_1 := Lib.hid B1
  clear B1
  have B2 : OwnB wc (w.heap.size + 1) [.int .i64 c, .int .i64 d] := ⟨hz_c1_2, hg_c1_2, hf_c1_2_0, hf_c1_2_1, trivial⟩
  have HB1_2 := Lib.hid B2
  clear B2
  have B3 : OwnB wc (w.heap.size + 2) [.int .i64 0, .int .i64 0] := ⟨hz_c1_3, hg_c1_3, hf_c1_3_0, hf_c1_3_1, trivial⟩
  have HB1_3 := Lib.hid B3
  clear B3
  go_upto_region 4 with (fail)
  go_cut [8, 9] (fun p0 c0 wx => ∃ b0 : Nat, p0 = .pointer (some ⟨b0, 0, none⟩) ∧ c0 = .bool true ∧ w.heap.size + 2 < b0 ∧ OwnB wx (b0) [.int .i64 (wh (t)), .int .u64 (wl (t))] ∧ OwnB wx (b1_0) [.int .i64 (wh (s)), .int .u64 (wl (s))] ∧ OwnB wx (w.heap.size) [.int .i64 a, .int .i64 b] ∧ OwnB wx (w.heap.size + 1) [.int .i64 c, .int .i64 d] ∧ OwnB wx (w.heap.size + 2) [.int .i64 0, .int .i64 0] ∧ Kept wc wx)
  case first =>
    go_region_held3 (fun W => W.cell? ⟨w.heap.size, 0, none⟩ = some (.int .i64 a) ∧ W.cell? ⟨w.heap.size, 1, none⟩ = some (.int .i64 b) ∧ W.cell? ⟨w.heap.size + 1, 0, none⟩ = some (.int .i64 c) ∧ W.cell? ⟨w.heap.size + 1, 1, none⟩ = some (.int .i64 d)) (first | (go_keep; done) | (simp (maxDischargeDepth := 9) [*, World.cell?_alloc_some, World.cell?_setCell_far]; done) | (simp (maxDischargeDepth := 9) [go_sem, *]; done)) (first | (go_at_call 57; (with_reducible refine (HO3.out _).mono ?_); rintro e v0 ⟨rfl, hk⟩; have hz := hk.size; (try (refine kuse (b := b1_0) hk (by first | (simp; done) | (simp; omega) | omega) ?_; intro hq hg; have hy : b1_0 < v0.heap.size := (by (try simp at hz); omega); have hn : ¬ b1_0 = v0.heap.size := (by omega); have hm : ¬ b1_0 = v0.heap.size + 1 := (by omega); have hn' : ¬ v0.heap.size = b1_0 := (by omega); have hm' : ¬ v0.heap.size + 1 = b1_0 := (by omega))); (try (refine kuse (b := w.heap.size) hk (by first | (simp; done) | (simp; omega) | omega) ?_; intro hq hg; have hy : w.heap.size < v0.heap.size := (by (try simp at hz); omega); have hn : ¬ w.heap.size = v0.heap.size := (by omega); have hm : ¬ w.heap.size = v0.heap.size + 1 := (by omega); have hn' : ¬ v0.heap.size = w.heap.size := (by omega); have hm' : ¬ v0.heap.size + 1 = w.heap.size := (by omega))); (try (refine kuse (b := w.heap.size + 1) hk (by first | (simp; done) | (simp; omega) | omega) ?_; intro hq hg; have hy : w.heap.size + 1 < v0.heap.size := (by (try simp at hz); omega); have hn : ¬ w.heap.size + 1 = v0.heap.size := (by omega); have hm : ¬ w.heap.size + 1 = v0.heap.size + 1 := (by omega); have hn' : ¬ v0.heap.size = w.heap.size + 1 := (by omega); have hm' : ¬ v0.heap.size + 1 = w.heap.size + 1 := (by omega))); (try (refine kuse (b := w.heap.size + 2) hk (by first | (simp; done) | (simp; omega) | omega) ?_; intro hq hg; have hy : w.heap.size + 2 < v0.heap.size := (by (try simp at hz); omega); have hn : ¬ w.heap.size + 2 = v0.heap.size := (by omega); have hm : ¬ w.heap.size + 2 = v0.heap.size + 1 := (by omega); have hn' : ¬ v0.heap.size = w.heap.size + 2 := (by omega); have hm' : ¬ v0.heap.size + 1 = w.heap.size + 2 := (by omega))); (try (have hle : wc.heap.size ≤ v0.heap.size := (by (try simp at hz); omega))); (try (refine kuse (b := wc.heap.size) hk (by first | (simp; done) | (simp; omega) | omega) ?_; intro hq hg; have hy : wc.heap.size < v0.heap.size := (by (try simp at hz); omega))); (try (refine withF (p := v0.cell? ⟨w.heap.size, 0, none⟩ = some (.int .i64 a)) (by first | (simp (maxDischargeDepth := 7) [go_sem, *]; done) | fail) ?_; intro ff)); (try (refine withF (p := v0.cell? ⟨w.heap.size, 1, none⟩ = some (.int .i64 b)) (by first | (simp (maxDischargeDepth := 7) [go_sem, *]; done) | fail) ?_; intro ff)); (try (refine withF (p := v0.cell? ⟨w.heap.size + 1, 0, none⟩ = some (.int .i64 c)) (by first | (simp (maxDischargeDepth := 7) [go_sem, *]; done) | fail) ?_; intro ff)); (try (refine withF (p := v0.cell? ⟨w.heap.size + 1, 1, none⟩ = some (.int .i64 d)) (by first | (simp (maxDischargeDepth := 7) [go_sem, *]; done) | fail) ?_; intro ff))) | (go_at_call 57; (with_reducible refine (HO4.out _).mono ?_); rintro e v1 ⟨rfl, hk⟩; have hz := hk.size; (try (refine kuse (b := b1_0) hk (by first | (simp; done) | (simp; omega) | omega) ?_; intro hq hg; have hy : b1_0 < v1.heap.size := (by (try simp at hz); omega); have hn : ¬ b1_0 = v1.heap.size := (by omega); have hm : ¬ b1_0 = v1.heap.size + 1 := (by omega); have hn' : ¬ v1.heap.size = b1_0 := (by omega); have hm' : ¬ v1.heap.size + 1 = b1_0 := (by omega))); (try (refine kuse (b := w.heap.size) hk (by first | (simp; done) | (simp; omega) | omega) ?_; intro hq hg; have hy : w.heap.size < v1.heap.size := (by (try simp at hz); omega); have hn : ¬ w.heap.size = v1.heap.size := (by omega); have hm : ¬ w.heap.size = v1.heap.size + 1 := (by omega); have hn' : ¬ v1.heap.size = w.heap.size := (by omega); have hm' : ¬ v1.heap.size + 1 = w.heap.size := (by omega))); (try (refine kuse (b := w.heap.size + 1) hk (by first | (simp; done) | (simp; omega) | omega) ?_; intro hq hg; have hy : w.heap.size + 1 < v1.heap.size := (by (try simp at hz); omega); have hn : ¬ w.heap.size + 1 = v1.heap.size := (by omega); have hm : ¬ w.heap.size + 1 = v1.heap.size + 1 := (by omega); have hn' : ¬ v1.heap.size = w.heap.size + 1 := (by omega); have hm' : ¬ v1.heap.size + 1 = w.heap.size + 1 := (by omega))); (try (refine kuse (b := w.heap.size + 2) hk (by first | (simp; done) | (simp; omega) | omega) ?_; intro hq hg; have hy : w.heap.size + 2 < v1.heap.size := (by (try simp at hz); omega); have hn : ¬ w.heap.size + 2 = v1.heap.size := (by omega); have hm : ¬ w.heap.size + 2 = v1.heap.size + 1 := (by omega); have hn' : ¬ v1.heap.size = w.heap.size + 2 := (by omega); have hm' : ¬ v1.heap.size + 1 = w.heap.size + 2 := (by omega))); (try (have hle : wc.heap.size ≤ v1.heap.size := (by (try simp at hz); omega))); (try (have hle : v0.heap.size ≤ v1.heap.size := (by (try simp at hz); omega))); (try (refine kuse (b := v0.heap.size) hk (by first | (simp; done) | (simp; omega) | omega) ?_; intro hq hg; have hy : v0.heap.size < v1.heap.size := (by (try simp at hz); omega))); (try (refine kuse (b := wc.heap.size) hk (by first | (simp; done) | (simp; omega) | omega) ?_; intro hq hg; have hy : wc.heap.size < v1.heap.size := (by (try simp at hz); omega))); (try (refine withF (p := v1.cell? ⟨w.heap.size, 0, none⟩ = some (.int .i64 a)) (by first | (simp (maxDischargeDepth := 7) [go_sem, *]; done) | fail) ?_; intro ff)); (try (refine withF (p := v1.cell? ⟨w.heap.size, 1, none⟩ = some (.int .i64 b)) (by first | (simp (maxDischargeDepth := 7) [go_sem, *]; done) | fail) ?_; intro ff)); (try (refine withF (p := v1.cell? ⟨w.heap.size + 1, 0, none⟩ = some (.int .i64 c)) (by first | (simp (maxDischargeDepth := 7) [go_sem, *]; done) | fail) ?_; intro ff)); (try (refine withF (p := v1.cell? ⟨w.heap.size + 1, 1, none⟩ = some (.int .i64 d)) (by first | (simp (maxDischargeDepth := 7) [go_sem, *]; done) | fail) ?_; intro ff))) | (go_at_call 56; (with_reducible refine (HA2.out _).mono ?_); rintro e v2 ⟨rfl, hk⟩; have hz := hk.size; (try (refine kuse (b := b1_0) hk (by first | (simp; done) | (simp; omega) | omega) ?_; intro hq hg; have hy : b1_0 < v2.heap.size := (by (try simp at hz); omega); have hn : ¬ b1_0 = v2.heap.size := (by omega); have hm : ¬ b1_0 = v2.heap.size + 1 := (by omega); have hn' : ¬ v2.heap.size = b1_0 := (by omega); have hm' : ¬ v2.heap.size + 1 = b1_0 := (by omega))); (try (refine kuse (b := w.heap.size) hk (by first | (simp; done) | (simp; omega) | omega) ?_; intro hq hg; have hy : w.heap.size < v2.heap.size := (by (try simp at hz); omega); have hn : ¬ w.heap.size = v2.heap.size := (by omega); have hm : ¬ w.heap.size = v2.heap.size + 1 := (by omega); have hn' : ¬ v2.heap.size = w.heap.size := (by omega); have hm' : ¬ v2.heap.size + 1 = w.heap.size := (by omega))); (try (refine kuse (b := w.heap.size + 1) hk (by first | (simp; done) | (simp; omega) | omega) ?_; intro hq hg; have hy : w.heap.size + 1 < v2.heap.size := (by (try simp at hz); omega); have hn : ¬ w.heap.size + 1 = v2.heap.size := (by omega); have hm : ¬ w.heap.size + 1 = v2.heap.size + 1 := (by omega); have hn' : ¬ v2.heap.size = w.heap.size + 1 := (by omega); have hm' : ¬ v2.heap.size + 1 = w.heap.size + 1 := (by omega))); (try (refine kuse (b := w.heap.size + 2) hk (by first | (simp; done) | (simp; omega) | omega) ?_; intro hq hg; have hy : w.heap.size + 2 < v2.heap.size := (by (try simp at hz); omega); have hn : ¬ w.heap.size + 2 = v2.heap.size := (by omega); have hm : ¬ w.heap.size + 2 = v2.heap.size + 1 := (by omega); have hn' : ¬ v2.heap.size = w.heap.size + 2 := (by omega); have hm' : ¬ v2.heap.size + 1 = w.heap.size + 2 := (by omega))); (try (have hle : wc.heap.size ≤ v2.heap.size := (by (try simp at hz); omega))); (try (have hle : v0.heap.size ≤ v2.heap.size := (by (try simp at hz); omega))); (try (have hle : v1.heap.size ≤ v2.heap.size := (by (try simp at hz); omega))); (try (refine kuse (b := v0.heap.size) hk (by first | (simp; done) | (simp; omega) | omega) ?_; intro hq hg; have hy : v0.heap.size < v2.heap.size := (by (try simp at hz); omega))); (try (refine kuse (b := v1.heap.size) hk (by first | (simp; done) | (simp; omega) | omega) ?_; intro hq hg; have hy : v1.heap.size < v2.heap.size := (by (try simp at hz); omega))); (try (refine kuse (b := wc.heap.size) hk (by first | (simp; done) | (simp; omega) | omega) ?_; intro hq hg; have hy : wc.heap.size < v2.heap.size := (by (try simp at hz); omega))); (try (refine withF (p := v2.cell? ⟨w.heap.size, 0, none⟩ = some (.int .i64 a)) (by first | (simp (maxDischargeDepth := 7) [go_sem, *]; done) | fail) ?_; intro ff)); (try (refine withF (p := v2.cell? ⟨w.heap.size, 1, none⟩ = some (.int .i64 b)) (by first | (simp (maxDischargeDepth := 7) [go_sem, *]; done) | fail) ?_; intro ff)); (try (refine withF (p := v2.cell? ⟨w.heap.size + 1, 0, none⟩ = some (.int .i64 c)) (by first | (simp (maxDischargeDepth := 7) [go_sem, *]; done) | fail) ?_; intro ff)); (try (refine withF (p := v2.cell? ⟨w.heap.size + 1, 1, none⟩ = some (.int .i64 d)) (by first | (simp (maxDischargeDepth := 7) [go_sem, *]; done) | fail) ?_; intro ff))))
    all_goals (try go_wp2_with fail)
    all_goals (go_meet; case rel => refine (fun (hkx : Kept wc _) => ⟨_, rfl, rfl, (by first | with_reducible assumption | omega | (simp; omega)), (by repeat (first | with_reducible exact own_alloc _ [.int .i64 (wh (t)), .int .u64 (wl (t))] 45 | with_reducible exact own_alloc _ [.int .i64 0, .int .u64 0] 45 | ((with_reducible refine own_allocE _ [.int .i64 (wh (t)), .int .u64 (wl (t))] 45 _ ?_); (simp; done)) | ((with_reducible refine own_allocE _ [.int .i64 0, .int .u64 0] 45 _ ?_); (simp; done)) | with_reducible refine own_set2 (us := [.int .i64 0, .int .u64 0]) ?_ rfl | with_reducible refine OwnB.other2 ?_ (by first | with_reducible assumption | omega | (simp; done) | (simp; omega)) | with_reducible refine OwnB.alloc ?_ _ | with_reducible refine OwnB.drew ?_ | with_reducible refine OwnB.drewN ?_ _ | with_reducible refine OwnB.kept (by with_reducible assumption) ?_)), OwnB.kept hkx HB1_0.out, OwnB.kept hkx HB1_1.out, OwnB.kept hkx HB1_2.out, OwnB.kept hkx HB1_3.out, hkx⟩) ?_; exact (by repeat (first | with_reducible exact Kept.refl _ | with_reducible assumption | with_reducible refine Kept.set12 ?_ (by first | with_reducible assumption | omega | (simp; done) | (simp; omega)) | with_reducible refine Kept.set11 ?_ (by first | with_reducible assumption | omega | (simp; done) | (simp; omega)) | with_reducible refine Kept.set10 ?_ (by first | with_reducible assumption | omega | (simp; done) | (simp; omega)) | with_reducible refine Kept.set9 ?_ (by first | with_reducible assumption | omega | (simp; done) | (simp; omega)) | with_reducible refine Kept.set8 ?_ (by first | with_reducible assumption | omega | (simp; done) | (simp; omega)) | with_reducible refine Kept.set7 ?_ (by first | with_reducible assumption | omega | (simp; done) | (simp; omega)) | with_reducible refine Kept.set6 ?_ (by first | with_reducible assumption | omega | (simp; done) | (simp; omega)) | with_reducible refine Kept.set5 ?_ (by first | with_reducible assumption | omega | (simp; done) | (simp; omega)) | with_reducible refine Kept.set4 ?_ (by first | with_reducible assumption | omega | (simp; done) | (simp; omega)) | with_reducible refine Kept.set3 ?_ (by first | with_reducible assumption | omega | (simp; done) | (simp; omega)) | with_reducible refine Kept.set2 ?_ (by first | with_reducible assumption | omega | (simp; done) | (simp; omega)) | with_reducible refine Kept.setCell ?_ (by first | with_reducible assumption | omega | (simp; done) | (simp; omega)) _ | with_reducible refine Kept.alloc ?_ _ | with_reducible refine Kept.drewN ?_ _ | with_reducible refine Kept.drew ?_ | with_reducible refine Kept.trans ?_ (by with_reducible assumption) | with_reducible refine Kept.dr ?_ (by with_reducible assumption))))
  case rest =>
  obtain ⟨b2_0, rfl, rfl, lt2_0, O2_0, O2_1, O2_2, O2_3, O2_4, hkc2⟩ := hcut
  obtain ⟨hz_c2_0, hg_c2_0, hf_c2_0_0, hf_c2_0_1, _⟩ := O2_0
  obtain ⟨hz_c2_1, hg_c2_1, hf_c2_1_0, hf_c2_1_1, _⟩ := O2_1
  obtain ⟨hz_c2_2, hg_c2_2, hf_c2_2_0, hf_c2_2_1, _⟩ := O2_2
  obtain ⟨hz_c2_3, hg_c2_3, hf_c2_3_0, hf_c2_3_1, _⟩ := O2_3
  obtain ⟨hz_c2_4, hg_c2_4, hf_c2_4_0, hf_c2_4_1, _⟩ := O2_4
  try clear hf_c1_0_0
  try clear hf_c1_0_1
  try clear hf_c1_1_0
  try clear hf_c1_1_1
  try clear hf_c1_2_0
  try clear hf_c1_2_1
  try clear hf_c1_3_0
  try clear hf_c1_3_1
  try clear hg_c1_0
  try clear hg_c1_1
  try clear hg_c1_2
  try clear hg_c1_3
  go_wp2_with fail
  refine (HE.out _ _ _ (sw_lit2 _ s t _)).mono ?_
  rintro e w8 ⟨rfl, hk8⟩
  refine kuz (b := b2_0) hk8 (by first | (simp; done) | (simp; omega) | omega) ?_
  intro ha hb hz8_0 hn8_0 hm8_0
  have hf8_0_0 : w8.cell? ⟨b2_0, 0, none⟩ = some (.int .i64 (wh (t))) := (ha _).trans (by first | with_reducible assumption | (simp (maxDischargeDepth := 7) [go_sem]; done) | (simp (maxDischargeDepth := 7) [go_sem, *]; done))
  have hf8_0_1 : w8.cell? ⟨b2_0, 1, none⟩ = some (.int .u64 (wl (t))) := (ha _).trans (by first | with_reducible assumption | (simp (maxDischargeDepth := 7) [go_sem]; done) | (simp (maxDischargeDepth := 7) [go_sem, *]; done))
  try have hg8_0 : ∀ o, w8.frozen? ⟨b2_0, o, none⟩ = false := by intro o; rw [hb]; first | (simp (maxDischargeDepth := 7) [go_sem]; done) | (simp (maxDischargeDepth := 7) [go_sem, *]; done)
  clear ha hb
  refine kuz (b := b1_0) hk8 (by first | (simp; done) | (simp; omega) | omega) ?_
  intro ha hb hz8_1 hn8_1 hm8_1
  have hf8_1_0 : w8.cell? ⟨b1_0, 0, none⟩ = some (.int .i64 (wh (s))) := (ha _).trans (by first | with_reducible assumption | (simp (maxDischargeDepth := 7) [go_sem]; done) | (simp (maxDischargeDepth := 7) [go_sem, *]; done))
  have hf8_1_1 : w8.cell? ⟨b1_0, 1, none⟩ = some (.int .u64 (wl (s))) := (ha _).trans (by first | with_reducible assumption | (simp (maxDischargeDepth := 7) [go_sem]; done) | (simp (maxDischargeDepth := 7) [go_sem, *]; done))
  try have hg8_1 : ∀ o, w8.frozen? ⟨b1_0, o, none⟩ = false := by intro o; rw [hb]; first | (simp (maxDischargeDepth := 7) [go_sem]; done) | (simp (maxDischargeDepth := 7) [go_sem, *]; done)
  clear ha hb
  refine kuz (b := w.heap.size) hk8 (by first | (simp; done) | (simp; omega) | omega) ?_
  intro ha hb hz8_2 hn8_2 hm8_2
  have hf8_2_0 : w8.cell? ⟨w.heap.size, 0, none⟩ = some (.int .i64 a) := (ha _).trans (by first | with_reducible assumption | (simp (maxDischargeDepth := 7) [go_sem]; done) | (simp (maxDischargeDepth := 7) [go_sem, *]; done))
  have hf8_2_1 : w8.cell? ⟨w.heap.size, 1, none⟩ = some (.int .i64 b) := (ha _).trans (by first | with_reducible assumption | (simp (maxDischargeDepth := 7) [go_sem]; done) | (simp (maxDischargeDepth := 7) [go_sem, *]; done))
  try have hg8_2 : ∀ o, w8.frozen? ⟨w.heap.size, o, none⟩ = false := by intro o; rw [hb]; first | (simp (maxDischargeDepth := 7) [go_sem]; done) | (simp (maxDischargeDepth := 7) [go_sem, *]; done)
  clear ha hb
  refine kuz (b := w.heap.size + 1) hk8 (by first | (simp; done) | (simp; omega) | omega) ?_
  intro ha hb hz8_3 hn8_3 hm8_3
  have hf8_3_0 : w8.cell? ⟨w.heap.size + 1, 0, none⟩ = some (.int .i64 c) := (ha _).trans (by first | with_reducible assumption | (simp (maxDischargeDepth := 7) [go_sem]; done) | (simp (maxDischargeDepth := 7) [go_sem, *]; done))
  have hf8_3_1 : w8.cell? ⟨w.heap.size + 1, 1, none⟩ = some (.int .i64 d) := (ha _).trans (by first | with_reducible assumption | (simp (maxDischargeDepth := 7) [go_sem]; done) | (simp (maxDischargeDepth := 7) [go_sem, *]; done))
  try have hg8_3 : ∀ o, w8.frozen? ⟨w.heap.size + 1, o, none⟩ = false := by intro o; rw [hb]; first | (simp (maxDischargeDepth := 7) [go_sem]; done) | (simp (maxDischargeDepth := 7) [go_sem, *]; done)
  clear ha hb
  refine kuz (b := w.heap.size + 2) hk8 (by first | (simp; done) | (simp; omega) | omega) ?_
  intro ha hb hz8_4 hn8_4 hm8_4
  have hf8_4_0 : w8.cell? ⟨w.heap.size + 2, 0, none⟩ = some (.int .i64 0) := (ha _).trans (by first | with_reducible assumption | (simp (maxDischargeDepth := 7) [go_sem]; done) | (simp (maxDischargeDepth := 7) [go_sem, *]; done))
  have hf8_4_1 : w8.cell? ⟨w.heap.size + 2, 1, none⟩ = some (.int .i64 0) := (ha _).trans (by first | with_reducible assumption | (simp (maxDischargeDepth := 7) [go_sem]; done) | (simp (maxDischargeDepth := 7) [go_sem, *]; done))
  try have hg8_4 : ∀ o, w8.frozen? ⟨w.heap.size + 2, o, none⟩ = false := by intro o; rw [hb]; first | (simp (maxDischargeDepth := 7) [go_sem]; done) | (simp (maxDischargeDepth := 7) [go_sem, *]; done)
  clear ha hb
  try clear hf_c2_0_0
  try clear hf_c2_0_1
  try clear hf_c2_1_0
  try clear hf_c2_1_1
  try clear hf_c2_2_0
  try clear hf_c2_2_1
  try clear hf_c2_3_0
  try clear hf_c2_3_1
  try clear hf_c2_4_0
  try clear hf_c2_4_1
  try clear hg_c2_0
  try clear hg_c2_1
  try clear hg_c2_2
  try clear hg_c2_3
  try clear hg_c2_4
  go_wp2_with fail
  all_goals exact bodyPost_ret (v := .tuple #[.agg #[.int .i64 s, .int .i64 t], .int .i64 0]) (by first | (simp [results, Try.results25, go_sem]; done) | (simp (maxDischargeDepth := 7) [results, Try.results25, go_sem, *]; done)) rfl ⟨rfl, (by repeat (first | with_reducible exact Kept.refl _ | with_reducible assumption | with_reducible refine Kept.setCell ?_ (by first | (simp; done) | (simp; omega) | omega) _ | with_reducible refine Kept.alloc ?_ _ | with_reducible refine Kept.drewN ?_ _ | with_reducible refine Kept.drew ?_ | with_reducible refine Kept.trans ?_ (by with_reducible assumption) | with_reducible refine Kept.dr ?_ (by with_reducible assumption)))⟩
set_option maxHeartbeats 4000000 in
set_option maxRecDepth 100000 in
theorem ref_iadd_bad (a b c d : Int) (x1 : a ≤ b) (x2 : -4611686018427387904 ≤ a) (x3 : b ≤ 4611686018427387904) (y1 : c ≤ d) (y2 : -4611686018427387904 ≤ c) (y3 : d ≤ 4611686018427387904) (kb : a + c < -4611686018427387904 ∨ 4611686018427387904 < b + d) (w : World) : Calls Try.prog 25 #[.agg #[.int .i64 a, .int .i64 b], .agg #[.int .i64 c, .int .i64 d]] w fun e w' => e = .returned (.tuple #[.agg #[.int .i64 0, .int .i64 0], .int .i64 2]) ∧ Kept w w' := by
  obtain ⟨s, hs⟩ : ∃ s, a + c = s := ⟨_, rfl⟩
  obtain ⟨t, ht⟩ : ∃ t, b + d = t := ⟨_, rfl⟩
  have HA1 := Lib.hid (radd_ok a c s (by omega) (by omega) (by omega) (by omega) hs)
  have HA2 := Lib.hid (radd_ok b d t (by omega) (by omega) (by omega) (by omega) ht)
  have HO1 := Lib.hid (ref_of_w a (by omega) (by omega))
  have HO2 := Lib.hid (ref_of_w c (by omega) (by omega))
  have HO3 := Lib.hid (ref_of_w b (by omega) (by omega))
  have HO4 := Lib.hid (ref_of_w d (by omega) (by omega))
  have HV1 := Lib.hid (ref_valid_ok a b x1 x2 x3)
  have HV2 := Lib.hid (ref_valid_ok c d y1 y2 y3)
  have kb' : s < -4611686018427387904 ∨ 4611686018427387904 < t ∨ t < s := by omega
  have kst : s ≤ t := by omega
  have HL := Lib.hid (show min s t = s by omega)
  have HG := Lib.hid (show max s t = t by omega)
  have HE := Lib.hid (fun b c => ref_ex2_bad b c s t s t HL HG kb')
  clear hs ht HL HG
  clear x1 x2 x3 y1 y2 y3 kst kb kb'
  go_enter Try.func25, Try.ntmps25
  go_wp2_with fail
  with_reducible refine (HV1.out _).mono ?_
  rintro e w1 ⟨rfl, hk1⟩
  refine kuz (b := w.heap.size) hk1 (by first | (simp; done) | (simp; omega) | omega) ?_
  intro ha hb hz1_0 hn1_0 hm1_0
  have hf1_0_0 : w1.cell? ⟨w.heap.size, 0, none⟩ = some (.int .i64 a) := (ha _).trans (by first | with_reducible assumption | (simp (maxDischargeDepth := 7) [go_sem]; done) | (simp (maxDischargeDepth := 7) [go_sem, *]; done))
  have hf1_0_1 : w1.cell? ⟨w.heap.size, 1, none⟩ = some (.int .i64 b) := (ha _).trans (by first | with_reducible assumption | (simp (maxDischargeDepth := 7) [go_sem]; done) | (simp (maxDischargeDepth := 7) [go_sem, *]; done))
  try have hg1_0 : ∀ o, w1.frozen? ⟨w.heap.size, o, none⟩ = false := by intro o; rw [hb]; first | (simp (maxDischargeDepth := 7) [go_sem]; done) | (simp (maxDischargeDepth := 7) [go_sem, *]; done)
  clear ha hb
  refine kuz (b := w.heap.size + 1) hk1 (by first | (simp; done) | (simp; omega) | omega) ?_
  intro ha hb hz1_1 hn1_1 hm1_1
  have hf1_1_0 : w1.cell? ⟨w.heap.size + 1, 0, none⟩ = some (.int .i64 c) := (ha _).trans (by first | with_reducible assumption | (simp (maxDischargeDepth := 7) [go_sem]; done) | (simp (maxDischargeDepth := 7) [go_sem, *]; done))
  have hf1_1_1 : w1.cell? ⟨w.heap.size + 1, 1, none⟩ = some (.int .i64 d) := (ha _).trans (by first | with_reducible assumption | (simp (maxDischargeDepth := 7) [go_sem]; done) | (simp (maxDischargeDepth := 7) [go_sem, *]; done))
  try have hg1_1 : ∀ o, w1.frozen? ⟨w.heap.size + 1, o, none⟩ = false := by intro o; rw [hb]; first | (simp (maxDischargeDepth := 7) [go_sem]; done) | (simp (maxDischargeDepth := 7) [go_sem, *]; done)
  clear ha hb
  refine kuz (b := w.heap.size + 2) hk1 (by first | (simp; done) | (simp; omega) | omega) ?_
  intro ha hb hz1_2 hn1_2 hm1_2
  have hf1_2_0 : w1.cell? ⟨w.heap.size + 2, 0, none⟩ = some (.int .i64 0) := (ha _).trans (by first | with_reducible assumption | (simp (maxDischargeDepth := 7) [go_sem]; done) | (simp (maxDischargeDepth := 7) [go_sem, *]; done))
  have hf1_2_1 : w1.cell? ⟨w.heap.size + 2, 1, none⟩ = some (.int .i64 0) := (ha _).trans (by first | with_reducible assumption | (simp (maxDischargeDepth := 7) [go_sem]; done) | (simp (maxDischargeDepth := 7) [go_sem, *]; done))
  try have hg1_2 : ∀ o, w1.frozen? ⟨w.heap.size + 2, o, none⟩ = false := by intro o; rw [hb]; first | (simp (maxDischargeDepth := 7) [go_sem]; done) | (simp (maxDischargeDepth := 7) [go_sem, *]; done)
  clear ha hb
  go_wp2_with fail
  with_reducible refine (HV2.out _).mono ?_
  rintro e w2 ⟨rfl, hk2⟩
  refine kuz (b := w.heap.size) hk2 (by first | (simp; done) | (simp; omega) | omega) ?_
  intro ha hb hz2_0 hn2_0 hm2_0
  have hf2_0_0 : w2.cell? ⟨w.heap.size, 0, none⟩ = some (.int .i64 a) := (ha _).trans (by first | with_reducible assumption | (simp (maxDischargeDepth := 7) [go_sem]; done) | (simp (maxDischargeDepth := 7) [go_sem, *]; done))
  have hf2_0_1 : w2.cell? ⟨w.heap.size, 1, none⟩ = some (.int .i64 b) := (ha _).trans (by first | with_reducible assumption | (simp (maxDischargeDepth := 7) [go_sem]; done) | (simp (maxDischargeDepth := 7) [go_sem, *]; done))
  try have hg2_0 : ∀ o, w2.frozen? ⟨w.heap.size, o, none⟩ = false := by intro o; rw [hb]; first | (simp (maxDischargeDepth := 7) [go_sem]; done) | (simp (maxDischargeDepth := 7) [go_sem, *]; done)
  clear ha hb
  refine kuz (b := w.heap.size + 1) hk2 (by first | (simp; done) | (simp; omega) | omega) ?_
  intro ha hb hz2_1 hn2_1 hm2_1
  have hf2_1_0 : w2.cell? ⟨w.heap.size + 1, 0, none⟩ = some (.int .i64 c) := (ha _).trans (by first | with_reducible assumption | (simp (maxDischargeDepth := 7) [go_sem]; done) | (simp (maxDischargeDepth := 7) [go_sem, *]; done))
  have hf2_1_1 : w2.cell? ⟨w.heap.size + 1, 1, none⟩ = some (.int .i64 d) := (ha _).trans (by first | with_reducible assumption | (simp (maxDischargeDepth := 7) [go_sem]; done) | (simp (maxDischargeDepth := 7) [go_sem, *]; done))
  try have hg2_1 : ∀ o, w2.frozen? ⟨w.heap.size + 1, o, none⟩ = false := by intro o; rw [hb]; first | (simp (maxDischargeDepth := 7) [go_sem]; done) | (simp (maxDischargeDepth := 7) [go_sem, *]; done)
  clear ha hb
  refine kuz (b := w.heap.size + 2) hk2 (by first | (simp; done) | (simp; omega) | omega) ?_
  intro ha hb hz2_2 hn2_2 hm2_2
  have hf2_2_0 : w2.cell? ⟨w.heap.size + 2, 0, none⟩ = some (.int .i64 0) := (ha _).trans (by first | with_reducible assumption | (simp (maxDischargeDepth := 7) [go_sem]; done) | (simp (maxDischargeDepth := 7) [go_sem, *]; done))
  have hf2_2_1 : w2.cell? ⟨w.heap.size + 2, 1, none⟩ = some (.int .i64 0) := (ha _).trans (by first | with_reducible assumption | (simp (maxDischargeDepth := 7) [go_sem]; done) | (simp (maxDischargeDepth := 7) [go_sem, *]; done))
  try have hg2_2 : ∀ o, w2.frozen? ⟨w.heap.size + 2, o, none⟩ = false := by intro o; rw [hb]; first | (simp (maxDischargeDepth := 7) [go_sem]; done) | (simp (maxDischargeDepth := 7) [go_sem, *]; done)
  clear ha hb
  try clear hf1_0_0
  try clear hf1_0_1
  try clear hf1_1_0
  try clear hf1_1_1
  try clear hf1_2_0
  try clear hf1_2_1
  try clear hg1_0
  try clear hg1_1
  try clear hg1_2
  try clear hz1_1
  try clear hz1_2
  go_wp2_with fail
  have B0 : OwnB w2 (w.heap.size) [.int .i64 a, .int .i64 b] := ⟨hz2_0, hg2_0, hf2_0_0, hf2_0_1, trivial⟩
  have HB0_0 := Lib.hid B0
  clear B0
  have B1 : OwnB w2 (w.heap.size + 1) [.int .i64 c, .int .i64 d] := ⟨hz2_1, hg2_1, hf2_1_0, hf2_1_1, trivial⟩
  have HB0_1 := Lib.hid B1
  clear B1
  have B2 : OwnB w2 (w.heap.size + 2) [.int .i64 0, .int .i64 0] := ⟨hz2_2, hg2_2, hf2_2_0, hf2_2_1, trivial⟩
  have HB0_2 := Lib.hid B2
  clear B2
  go_upto_region 3 with (fail)
  go_cut [6, 7] (fun p0 c0 wx => ∃ b0 : Nat, p0 = .pointer (some ⟨b0, 0, none⟩) ∧ c0 = .bool true ∧ w.heap.size + 2 < b0 ∧ OwnB wx (b0) [.int .i64 (wh (s)), .int .u64 (wl (s))] ∧ OwnB wx (w.heap.size) [.int .i64 a, .int .i64 b] ∧ OwnB wx (w.heap.size + 1) [.int .i64 c, .int .i64 d] ∧ OwnB wx (w.heap.size + 2) [.int .i64 0, .int .i64 0] ∧ Kept w2 wx)
  case first =>
    go_region_held3 (fun W => W.cell? ⟨w.heap.size, 0, none⟩ = some (.int .i64 a) ∧ W.cell? ⟨w.heap.size, 1, none⟩ = some (.int .i64 b) ∧ W.cell? ⟨w.heap.size + 1, 0, none⟩ = some (.int .i64 c) ∧ W.cell? ⟨w.heap.size + 1, 1, none⟩ = some (.int .i64 d)) (first | (go_keep; done) | (simp (maxDischargeDepth := 9) [*, World.cell?_alloc_some, World.cell?_setCell_far]; done) | (simp (maxDischargeDepth := 9) [go_sem, *]; done)) (first | (go_at_call 57; (with_reducible refine (HO1.out _).mono ?_); rintro e u0 ⟨rfl, hk⟩; have hz := hk.size; (try (refine kuse (b := w.heap.size) hk (by first | (simp; done) | (simp; omega) | omega) ?_; intro hq hg; have hy : w.heap.size < u0.heap.size := (by (try simp at hz); omega); have hn : ¬ w.heap.size = u0.heap.size := (by omega); have hm : ¬ w.heap.size = u0.heap.size + 1 := (by omega); have hn' : ¬ u0.heap.size = w.heap.size := (by omega); have hm' : ¬ u0.heap.size + 1 = w.heap.size := (by omega))); (try (refine kuse (b := w.heap.size + 1) hk (by first | (simp; done) | (simp; omega) | omega) ?_; intro hq hg; have hy : w.heap.size + 1 < u0.heap.size := (by (try simp at hz); omega); have hn : ¬ w.heap.size + 1 = u0.heap.size := (by omega); have hm : ¬ w.heap.size + 1 = u0.heap.size + 1 := (by omega); have hn' : ¬ u0.heap.size = w.heap.size + 1 := (by omega); have hm' : ¬ u0.heap.size + 1 = w.heap.size + 1 := (by omega))); (try (refine kuse (b := w.heap.size + 2) hk (by first | (simp; done) | (simp; omega) | omega) ?_; intro hq hg; have hy : w.heap.size + 2 < u0.heap.size := (by (try simp at hz); omega); have hn : ¬ w.heap.size + 2 = u0.heap.size := (by omega); have hm : ¬ w.heap.size + 2 = u0.heap.size + 1 := (by omega); have hn' : ¬ u0.heap.size = w.heap.size + 2 := (by omega); have hm' : ¬ u0.heap.size + 1 = w.heap.size + 2 := (by omega))); (try (have hle : w1.heap.size ≤ u0.heap.size := (by (try simp at hz); omega))); (try (have hle : w2.heap.size ≤ u0.heap.size := (by (try simp at hz); omega))); (try (refine kuse (b := w2.heap.size) hk (by first | (simp; done) | (simp; omega) | omega) ?_; intro hq hg; have hy : w2.heap.size < u0.heap.size := (by (try simp at hz); omega))); (try (refine withF (p := u0.cell? ⟨w.heap.size, 0, none⟩ = some (.int .i64 a)) (by first | (simp (maxDischargeDepth := 7) [go_sem, *]; done) | fail) ?_; intro ff)); (try (refine withF (p := u0.cell? ⟨w.heap.size, 1, none⟩ = some (.int .i64 b)) (by first | (simp (maxDischargeDepth := 7) [go_sem, *]; done) | fail) ?_; intro ff)); (try (refine withF (p := u0.cell? ⟨w.heap.size + 1, 0, none⟩ = some (.int .i64 c)) (by first | (simp (maxDischargeDepth := 7) [go_sem, *]; done) | fail) ?_; intro ff)); (try (refine withF (p := u0.cell? ⟨w.heap.size + 1, 1, none⟩ = some (.int .i64 d)) (by first | (simp (maxDischargeDepth := 7) [go_sem, *]; done) | fail) ?_; intro ff))) | (go_at_call 57; (with_reducible refine (HO2.out _).mono ?_); rintro e u1 ⟨rfl, hk⟩; have hz := hk.size; (try (refine kuse (b := w.heap.size) hk (by first | (simp; done) | (simp; omega) | omega) ?_; intro hq hg; have hy : w.heap.size < u1.heap.size := (by (try simp at hz); omega); have hn : ¬ w.heap.size = u1.heap.size := (by omega); have hm : ¬ w.heap.size = u1.heap.size + 1 := (by omega); have hn' : ¬ u1.heap.size = w.heap.size := (by omega); have hm' : ¬ u1.heap.size + 1 = w.heap.size := (by omega))); (try (refine kuse (b := w.heap.size + 1) hk (by first | (simp; done) | (simp; omega) | omega) ?_; intro hq hg; have hy : w.heap.size + 1 < u1.heap.size := (by (try simp at hz); omega); have hn : ¬ w.heap.size + 1 = u1.heap.size := (by omega); have hm : ¬ w.heap.size + 1 = u1.heap.size + 1 := (by omega); have hn' : ¬ u1.heap.size = w.heap.size + 1 := (by omega); have hm' : ¬ u1.heap.size + 1 = w.heap.size + 1 := (by omega))); (try (refine kuse (b := w.heap.size + 2) hk (by first | (simp; done) | (simp; omega) | omega) ?_; intro hq hg; have hy : w.heap.size + 2 < u1.heap.size := (by (try simp at hz); omega); have hn : ¬ w.heap.size + 2 = u1.heap.size := (by omega); have hm : ¬ w.heap.size + 2 = u1.heap.size + 1 := (by omega); have hn' : ¬ u1.heap.size = w.heap.size + 2 := (by omega); have hm' : ¬ u1.heap.size + 1 = w.heap.size + 2 := (by omega))); (try (have hle : w1.heap.size ≤ u1.heap.size := (by (try simp at hz); omega))); (try (have hle : w2.heap.size ≤ u1.heap.size := (by (try simp at hz); omega))); (try (have hle : u0.heap.size ≤ u1.heap.size := (by (try simp at hz); omega))); (try (refine kuse (b := u0.heap.size) hk (by first | (simp; done) | (simp; omega) | omega) ?_; intro hq hg; have hy : u0.heap.size < u1.heap.size := (by (try simp at hz); omega))); (try (refine kuse (b := w2.heap.size) hk (by first | (simp; done) | (simp; omega) | omega) ?_; intro hq hg; have hy : w2.heap.size < u1.heap.size := (by (try simp at hz); omega))); (try (refine withF (p := u1.cell? ⟨w.heap.size, 0, none⟩ = some (.int .i64 a)) (by first | (simp (maxDischargeDepth := 7) [go_sem, *]; done) | fail) ?_; intro ff)); (try (refine withF (p := u1.cell? ⟨w.heap.size, 1, none⟩ = some (.int .i64 b)) (by first | (simp (maxDischargeDepth := 7) [go_sem, *]; done) | fail) ?_; intro ff)); (try (refine withF (p := u1.cell? ⟨w.heap.size + 1, 0, none⟩ = some (.int .i64 c)) (by first | (simp (maxDischargeDepth := 7) [go_sem, *]; done) | fail) ?_; intro ff)); (try (refine withF (p := u1.cell? ⟨w.heap.size + 1, 1, none⟩ = some (.int .i64 d)) (by first | (simp (maxDischargeDepth := 7) [go_sem, *]; done) | fail) ?_; intro ff))) | (go_at_call 56; (with_reducible refine (HA1.out _).mono ?_); rintro e u2 ⟨rfl, hk⟩; have hz := hk.size; (try (refine kuse (b := w.heap.size) hk (by first | (simp; done) | (simp; omega) | omega) ?_; intro hq hg; have hy : w.heap.size < u2.heap.size := (by (try simp at hz); omega); have hn : ¬ w.heap.size = u2.heap.size := (by omega); have hm : ¬ w.heap.size = u2.heap.size + 1 := (by omega); have hn' : ¬ u2.heap.size = w.heap.size := (by omega); have hm' : ¬ u2.heap.size + 1 = w.heap.size := (by omega))); (try (refine kuse (b := w.heap.size + 1) hk (by first | (simp; done) | (simp; omega) | omega) ?_; intro hq hg; have hy : w.heap.size + 1 < u2.heap.size := (by (try simp at hz); omega); have hn : ¬ w.heap.size + 1 = u2.heap.size := (by omega); have hm : ¬ w.heap.size + 1 = u2.heap.size + 1 := (by omega); have hn' : ¬ u2.heap.size = w.heap.size + 1 := (by omega); have hm' : ¬ u2.heap.size + 1 = w.heap.size + 1 := (by omega))); (try (refine kuse (b := w.heap.size + 2) hk (by first | (simp; done) | (simp; omega) | omega) ?_; intro hq hg; have hy : w.heap.size + 2 < u2.heap.size := (by (try simp at hz); omega); have hn : ¬ w.heap.size + 2 = u2.heap.size := (by omega); have hm : ¬ w.heap.size + 2 = u2.heap.size + 1 := (by omega); have hn' : ¬ u2.heap.size = w.heap.size + 2 := (by omega); have hm' : ¬ u2.heap.size + 1 = w.heap.size + 2 := (by omega))); (try (have hle : w1.heap.size ≤ u2.heap.size := (by (try simp at hz); omega))); (try (have hle : w2.heap.size ≤ u2.heap.size := (by (try simp at hz); omega))); (try (have hle : u0.heap.size ≤ u2.heap.size := (by (try simp at hz); omega))); (try (have hle : u1.heap.size ≤ u2.heap.size := (by (try simp at hz); omega))); (try (refine kuse (b := u0.heap.size) hk (by first | (simp; done) | (simp; omega) | omega) ?_; intro hq hg; have hy : u0.heap.size < u2.heap.size := (by (try simp at hz); omega))); (try (refine kuse (b := u1.heap.size) hk (by first | (simp; done) | (simp; omega) | omega) ?_; intro hq hg; have hy : u1.heap.size < u2.heap.size := (by (try simp at hz); omega))); (try (refine kuse (b := w2.heap.size) hk (by first | (simp; done) | (simp; omega) | omega) ?_; intro hq hg; have hy : w2.heap.size < u2.heap.size := (by (try simp at hz); omega))); (try (refine withF (p := u2.cell? ⟨w.heap.size, 0, none⟩ = some (.int .i64 a)) (by first | (simp (maxDischargeDepth := 7) [go_sem, *]; done) | fail) ?_; intro ff)); (try (refine withF (p := u2.cell? ⟨w.heap.size, 1, none⟩ = some (.int .i64 b)) (by first | (simp (maxDischargeDepth := 7) [go_sem, *]; done) | fail) ?_; intro ff)); (try (refine withF (p := u2.cell? ⟨w.heap.size + 1, 0, none⟩ = some (.int .i64 c)) (by first | (simp (maxDischargeDepth := 7) [go_sem, *]; done) | fail) ?_; intro ff)); (try (refine withF (p := u2.cell? ⟨w.heap.size + 1, 1, none⟩ = some (.int .i64 d)) (by first | (simp (maxDischargeDepth := 7) [go_sem, *]; done) | fail) ?_; intro ff))))
    all_goals (try go_wp2_with fail)
    all_goals (go_meet; case rel => refine (fun (hkx : Kept w2 _) => ⟨_, rfl, rfl, (by first | with_reducible assumption | omega | (simp; omega)), (by repeat (first | with_reducible exact own_alloc _ [.int .i64 (wh (s)), .int .u64 (wl (s))] 45 | with_reducible exact own_alloc _ [.int .i64 0, .int .u64 0] 45 | ((with_reducible refine own_allocE _ [.int .i64 (wh (s)), .int .u64 (wl (s))] 45 _ ?_); (simp; done)) | ((with_reducible refine own_allocE _ [.int .i64 0, .int .u64 0] 45 _ ?_); (simp; done)) | with_reducible refine own_set2 (us := [.int .i64 0, .int .u64 0]) ?_ rfl | with_reducible refine OwnB.other2 ?_ (by first | with_reducible assumption | omega | (simp; done) | (simp; omega)) | with_reducible refine OwnB.alloc ?_ _ | with_reducible refine OwnB.drew ?_ | with_reducible refine OwnB.drewN ?_ _ | with_reducible refine OwnB.kept (by with_reducible assumption) ?_)), OwnB.kept hkx HB0_0.out, OwnB.kept hkx HB0_1.out, OwnB.kept hkx HB0_2.out, hkx⟩) ?_; exact (by repeat (first | with_reducible exact Kept.refl _ | with_reducible assumption | with_reducible refine Kept.set12 ?_ (by first | with_reducible assumption | omega | (simp; done) | (simp; omega)) | with_reducible refine Kept.set11 ?_ (by first | with_reducible assumption | omega | (simp; done) | (simp; omega)) | with_reducible refine Kept.set10 ?_ (by first | with_reducible assumption | omega | (simp; done) | (simp; omega)) | with_reducible refine Kept.set9 ?_ (by first | with_reducible assumption | omega | (simp; done) | (simp; omega)) | with_reducible refine Kept.set8 ?_ (by first | with_reducible assumption | omega | (simp; done) | (simp; omega)) | with_reducible refine Kept.set7 ?_ (by first | with_reducible assumption | omega | (simp; done) | (simp; omega)) | with_reducible refine Kept.set6 ?_ (by first | with_reducible assumption | omega | (simp; done) | (simp; omega)) | with_reducible refine Kept.set5 ?_ (by first | with_reducible assumption | omega | (simp; done) | (simp; omega)) | with_reducible refine Kept.set4 ?_ (by first | with_reducible assumption | omega | (simp; done) | (simp; omega)) | with_reducible refine Kept.set3 ?_ (by first | with_reducible assumption | omega | (simp; done) | (simp; omega)) | with_reducible refine Kept.set2 ?_ (by first | with_reducible assumption | omega | (simp; done) | (simp; omega)) | with_reducible refine Kept.setCell ?_ (by first | with_reducible assumption | omega | (simp; done) | (simp; omega)) _ | with_reducible refine Kept.alloc ?_ _ | with_reducible refine Kept.drewN ?_ _ | with_reducible refine Kept.drew ?_ | with_reducible refine Kept.trans ?_ (by with_reducible assumption) | with_reducible refine Kept.dr ?_ (by with_reducible assumption))))
  case rest =>
  obtain ⟨b1_0, rfl, rfl, lt1_0, O1_0, O1_1, O1_2, O1_3, hkc1⟩ := hcut
  obtain ⟨hz_c1_0, hg_c1_0, hf_c1_0_0, hf_c1_0_1, _⟩ := O1_0
  obtain ⟨hz_c1_1, hg_c1_1, hf_c1_1_0, hf_c1_1_1, _⟩ := O1_1
  obtain ⟨hz_c1_2, hg_c1_2, hf_c1_2_0, hf_c1_2_1, _⟩ := O1_2
  obtain ⟨hz_c1_3, hg_c1_3, hf_c1_3_0, hf_c1_3_1, _⟩ := O1_3
  try clear hf2_0_0
  try clear hf2_0_1
  try clear hf2_1_0
  try clear hf2_1_1
  try clear hf2_2_0
  try clear hf2_2_1
  try clear hg2_0
  try clear hg2_1
  try clear hg2_2
  try clear hz2_1
  try clear hz2_2
  have B0 : OwnB wc (b1_0) [.int .i64 (wh (s)), .int .u64 (wl (s))] := ⟨hz_c1_0, hg_c1_0, hf_c1_0_0, hf_c1_0_1, trivial⟩
  have HB1_0 := Lib.hid B0
  clear B0
  have B1 : OwnB wc (w.heap.size) [.int .i64 a, .int .i64 b] := ⟨hz_c1_1, hg_c1_1, hf_c1_1_0, hf_c1_1_1, trivial⟩
  have HB1_1 := Lib.hid B1
  clear B1
  have B2 : OwnB wc (w.heap.size + 1) [.int .i64 c, .int .i64 d] := ⟨hz_c1_2, hg_c1_2, hf_c1_2_0, hf_c1_2_1, trivial⟩
  have HB1_2 := Lib.hid B2
  clear B2
  have B3 : OwnB wc (w.heap.size + 2) [.int .i64 0, .int .i64 0] := ⟨hz_c1_3, hg_c1_3, hf_c1_3_0, hf_c1_3_1, trivial⟩
  have HB1_3 := Lib.hid B3
  clear B3
  go_upto_region 4 with (fail)
  go_cut [8, 9] (fun p0 c0 wx => ∃ b0 : Nat, p0 = .pointer (some ⟨b0, 0, none⟩) ∧ c0 = .bool true ∧ w.heap.size + 2 < b0 ∧ OwnB wx (b0) [.int .i64 (wh (t)), .int .u64 (wl (t))] ∧ OwnB wx (b1_0) [.int .i64 (wh (s)), .int .u64 (wl (s))] ∧ OwnB wx (w.heap.size) [.int .i64 a, .int .i64 b] ∧ OwnB wx (w.heap.size + 1) [.int .i64 c, .int .i64 d] ∧ OwnB wx (w.heap.size + 2) [.int .i64 0, .int .i64 0] ∧ Kept wc wx)
  case first =>
    go_region_held3 (fun W => W.cell? ⟨w.heap.size, 0, none⟩ = some (.int .i64 a) ∧ W.cell? ⟨w.heap.size, 1, none⟩ = some (.int .i64 b) ∧ W.cell? ⟨w.heap.size + 1, 0, none⟩ = some (.int .i64 c) ∧ W.cell? ⟨w.heap.size + 1, 1, none⟩ = some (.int .i64 d)) (first | (go_keep; done) | (simp (maxDischargeDepth := 9) [*, World.cell?_alloc_some, World.cell?_setCell_far]; done) | (simp (maxDischargeDepth := 9) [go_sem, *]; done)) (first | (go_at_call 57; (with_reducible refine (HO3.out _).mono ?_); rintro e v0 ⟨rfl, hk⟩; have hz := hk.size; (try (refine kuse (b := b1_0) hk (by first | (simp; done) | (simp; omega) | omega) ?_; intro hq hg; have hy : b1_0 < v0.heap.size := (by (try simp at hz); omega); have hn : ¬ b1_0 = v0.heap.size := (by omega); have hm : ¬ b1_0 = v0.heap.size + 1 := (by omega); have hn' : ¬ v0.heap.size = b1_0 := (by omega); have hm' : ¬ v0.heap.size + 1 = b1_0 := (by omega))); (try (refine kuse (b := w.heap.size) hk (by first | (simp; done) | (simp; omega) | omega) ?_; intro hq hg; have hy : w.heap.size < v0.heap.size := (by (try simp at hz); omega); have hn : ¬ w.heap.size = v0.heap.size := (by omega); have hm : ¬ w.heap.size = v0.heap.size + 1 := (by omega); have hn' : ¬ v0.heap.size = w.heap.size := (by omega); have hm' : ¬ v0.heap.size + 1 = w.heap.size := (by omega))); (try (refine kuse (b := w.heap.size + 1) hk (by first | (simp; done) | (simp; omega) | omega) ?_; intro hq hg; have hy : w.heap.size + 1 < v0.heap.size := (by (try simp at hz); omega); have hn : ¬ w.heap.size + 1 = v0.heap.size := (by omega); have hm : ¬ w.heap.size + 1 = v0.heap.size + 1 := (by omega); have hn' : ¬ v0.heap.size = w.heap.size + 1 := (by omega); have hm' : ¬ v0.heap.size + 1 = w.heap.size + 1 := (by omega))); (try (refine kuse (b := w.heap.size + 2) hk (by first | (simp; done) | (simp; omega) | omega) ?_; intro hq hg; have hy : w.heap.size + 2 < v0.heap.size := (by (try simp at hz); omega); have hn : ¬ w.heap.size + 2 = v0.heap.size := (by omega); have hm : ¬ w.heap.size + 2 = v0.heap.size + 1 := (by omega); have hn' : ¬ v0.heap.size = w.heap.size + 2 := (by omega); have hm' : ¬ v0.heap.size + 1 = w.heap.size + 2 := (by omega))); (try (have hle : wc.heap.size ≤ v0.heap.size := (by (try simp at hz); omega))); (try (refine kuse (b := wc.heap.size) hk (by first | (simp; done) | (simp; omega) | omega) ?_; intro hq hg; have hy : wc.heap.size < v0.heap.size := (by (try simp at hz); omega))); (try (refine withF (p := v0.cell? ⟨w.heap.size, 0, none⟩ = some (.int .i64 a)) (by first | (simp (maxDischargeDepth := 7) [go_sem, *]; done) | fail) ?_; intro ff)); (try (refine withF (p := v0.cell? ⟨w.heap.size, 1, none⟩ = some (.int .i64 b)) (by first | (simp (maxDischargeDepth := 7) [go_sem, *]; done) | fail) ?_; intro ff)); (try (refine withF (p := v0.cell? ⟨w.heap.size + 1, 0, none⟩ = some (.int .i64 c)) (by first | (simp (maxDischargeDepth := 7) [go_sem, *]; done) | fail) ?_; intro ff)); (try (refine withF (p := v0.cell? ⟨w.heap.size + 1, 1, none⟩ = some (.int .i64 d)) (by first | (simp (maxDischargeDepth := 7) [go_sem, *]; done) | fail) ?_; intro ff))) | (go_at_call 57; (with_reducible refine (HO4.out _).mono ?_); rintro e v1 ⟨rfl, hk⟩; have hz := hk.size; (try (refine kuse (b := b1_0) hk (by first | (simp; done) | (simp; omega) | omega) ?_; intro hq hg; have hy : b1_0 < v1.heap.size := (by (try simp at hz); omega); have hn : ¬ b1_0 = v1.heap.size := (by omega); have hm : ¬ b1_0 = v1.heap.size + 1 := (by omega); have hn' : ¬ v1.heap.size = b1_0 := (by omega); have hm' : ¬ v1.heap.size + 1 = b1_0 := (by omega))); (try (refine kuse (b := w.heap.size) hk (by first | (simp; done) | (simp; omega) | omega) ?_; intro hq hg; have hy : w.heap.size < v1.heap.size := (by (try simp at hz); omega); have hn : ¬ w.heap.size = v1.heap.size := (by omega); have hm : ¬ w.heap.size = v1.heap.size + 1 := (by omega); have hn' : ¬ v1.heap.size = w.heap.size := (by omega); have hm' : ¬ v1.heap.size + 1 = w.heap.size := (by omega))); (try (refine kuse (b := w.heap.size + 1) hk (by first | (simp; done) | (simp; omega) | omega) ?_; intro hq hg; have hy : w.heap.size + 1 < v1.heap.size := (by (try simp at hz); omega); have hn : ¬ w.heap.size + 1 = v1.heap.size := (by omega); have hm : ¬ w.heap.size + 1 = v1.heap.size + 1 := (by omega); have hn' : ¬ v1.heap.size = w.heap.size + 1 := (by omega); have hm' : ¬ v1.heap.size + 1 = w.heap.size + 1 := (by omega))); (try (refine kuse (b := w.heap.size + 2) hk (by first | (simp; done) | (simp; omega) | omega) ?_; intro hq hg; have hy : w.heap.size + 2 < v1.heap.size := (by (try simp at hz); omega); have hn : ¬ w.heap.size + 2 = v1.heap.size := (by omega); have hm : ¬ w.heap.size + 2 = v1.heap.size + 1 := (by omega); have hn' : ¬ v1.heap.size = w.heap.size + 2 := (by omega); have hm' : ¬ v1.heap.size + 1 = w.heap.size + 2 := (by omega))); (try (have hle : wc.heap.size ≤ v1.heap.size := (by (try simp at hz); omega))); (try (have hle : v0.heap.size ≤ v1.heap.size := (by (try simp at hz); omega))); (try (refine kuse (b := v0.heap.size) hk (by first | (simp; done) | (simp; omega) | omega) ?_; intro hq hg; have hy : v0.heap.size < v1.heap.size := (by (try simp at hz); omega))); (try (refine kuse (b := wc.heap.size) hk (by first | (simp; done) | (simp; omega) | omega) ?_; intro hq hg; have hy : wc.heap.size < v1.heap.size := (by (try simp at hz); omega))); (try (refine withF (p := v1.cell? ⟨w.heap.size, 0, none⟩ = some (.int .i64 a)) (by first | (simp (maxDischargeDepth := 7) [go_sem, *]; done) | fail) ?_; intro ff)); (try (refine withF (p := v1.cell? ⟨w.heap.size, 1, none⟩ = some (.int .i64 b)) (by first | (simp (maxDischargeDepth := 7) [go_sem, *]; done) | fail) ?_; intro ff)); (try (refine withF (p := v1.cell? ⟨w.heap.size + 1, 0, none⟩ = some (.int .i64 c)) (by first | (simp (maxDischargeDepth := 7) [go_sem, *]; done) | fail) ?_; intro ff)); (try (refine withF (p := v1.cell? ⟨w.heap.size + 1, 1, none⟩ = some (.int .i64 d)) (by first | (simp (maxDischargeDepth := 7) [go_sem, *]; done) | fail) ?_; intro ff))) | (go_at_call 56; (with_reducible refine (HA2.out _).mono ?_); rintro e v2 ⟨rfl, hk⟩; have hz := hk.size; (try (refine kuse (b := b1_0) hk (by first | (simp; done) | (simp; omega) | omega) ?_; intro hq hg; have hy : b1_0 < v2.heap.size := (by (try simp at hz); omega); have hn : ¬ b1_0 = v2.heap.size := (by omega); have hm : ¬ b1_0 = v2.heap.size + 1 := (by omega); have hn' : ¬ v2.heap.size = b1_0 := (by omega); have hm' : ¬ v2.heap.size + 1 = b1_0 := (by omega))); (try (refine kuse (b := w.heap.size) hk (by first | (simp; done) | (simp; omega) | omega) ?_; intro hq hg; have hy : w.heap.size < v2.heap.size := (by (try simp at hz); omega); have hn : ¬ w.heap.size = v2.heap.size := (by omega); have hm : ¬ w.heap.size = v2.heap.size + 1 := (by omega); have hn' : ¬ v2.heap.size = w.heap.size := (by omega); have hm' : ¬ v2.heap.size + 1 = w.heap.size := (by omega))); (try (refine kuse (b := w.heap.size + 1) hk (by first | (simp; done) | (simp; omega) | omega) ?_; intro hq hg; have hy : w.heap.size + 1 < v2.heap.size := (by (try simp at hz); omega); have hn : ¬ w.heap.size + 1 = v2.heap.size := (by omega); have hm : ¬ w.heap.size + 1 = v2.heap.size + 1 := (by omega); have hn' : ¬ v2.heap.size = w.heap.size + 1 := (by omega); have hm' : ¬ v2.heap.size + 1 = w.heap.size + 1 := (by omega))); (try (refine kuse (b := w.heap.size + 2) hk (by first | (simp; done) | (simp; omega) | omega) ?_; intro hq hg; have hy : w.heap.size + 2 < v2.heap.size := (by (try simp at hz); omega); have hn : ¬ w.heap.size + 2 = v2.heap.size := (by omega); have hm : ¬ w.heap.size + 2 = v2.heap.size + 1 := (by omega); have hn' : ¬ v2.heap.size = w.heap.size + 2 := (by omega); have hm' : ¬ v2.heap.size + 1 = w.heap.size + 2 := (by omega))); (try (have hle : wc.heap.size ≤ v2.heap.size := (by (try simp at hz); omega))); (try (have hle : v0.heap.size ≤ v2.heap.size := (by (try simp at hz); omega))); (try (have hle : v1.heap.size ≤ v2.heap.size := (by (try simp at hz); omega))); (try (refine kuse (b := v0.heap.size) hk (by first | (simp; done) | (simp; omega) | omega) ?_; intro hq hg; have hy : v0.heap.size < v2.heap.size := (by (try simp at hz); omega))); (try (refine kuse (b := v1.heap.size) hk (by first | (simp; done) | (simp; omega) | omega) ?_; intro hq hg; have hy : v1.heap.size < v2.heap.size := (by (try simp at hz); omega))); (try (refine kuse (b := wc.heap.size) hk (by first | (simp; done) | (simp; omega) | omega) ?_; intro hq hg; have hy : wc.heap.size < v2.heap.size := (by (try simp at hz); omega))); (try (refine withF (p := v2.cell? ⟨w.heap.size, 0, none⟩ = some (.int .i64 a)) (by first | (simp (maxDischargeDepth := 7) [go_sem, *]; done) | fail) ?_; intro ff)); (try (refine withF (p := v2.cell? ⟨w.heap.size, 1, none⟩ = some (.int .i64 b)) (by first | (simp (maxDischargeDepth := 7) [go_sem, *]; done) | fail) ?_; intro ff)); (try (refine withF (p := v2.cell? ⟨w.heap.size + 1, 0, none⟩ = some (.int .i64 c)) (by first | (simp (maxDischargeDepth := 7) [go_sem, *]; done) | fail) ?_; intro ff)); (try (refine withF (p := v2.cell? ⟨w.heap.size + 1, 1, none⟩ = some (.int .i64 d)) (by first | (simp (maxDischargeDepth := 7) [go_sem, *]; done) | fail) ?_; intro ff))))
    all_goals (try go_wp2_with fail)
    all_goals (go_meet; case rel => refine (fun (hkx : Kept wc _) => ⟨_, rfl, rfl, (by first | with_reducible assumption | omega | (simp; omega)), (by repeat (first | with_reducible exact own_alloc _ [.int .i64 (wh (t)), .int .u64 (wl (t))] 45 | with_reducible exact own_alloc _ [.int .i64 0, .int .u64 0] 45 | ((with_reducible refine own_allocE _ [.int .i64 (wh (t)), .int .u64 (wl (t))] 45 _ ?_); (simp; done)) | ((with_reducible refine own_allocE _ [.int .i64 0, .int .u64 0] 45 _ ?_); (simp; done)) | with_reducible refine own_set2 (us := [.int .i64 0, .int .u64 0]) ?_ rfl | with_reducible refine OwnB.other2 ?_ (by first | with_reducible assumption | omega | (simp; done) | (simp; omega)) | with_reducible refine OwnB.alloc ?_ _ | with_reducible refine OwnB.drew ?_ | with_reducible refine OwnB.drewN ?_ _ | with_reducible refine OwnB.kept (by with_reducible assumption) ?_)), OwnB.kept hkx HB1_0.out, OwnB.kept hkx HB1_1.out, OwnB.kept hkx HB1_2.out, OwnB.kept hkx HB1_3.out, hkx⟩) ?_; exact (by repeat (first | with_reducible exact Kept.refl _ | with_reducible assumption | with_reducible refine Kept.set12 ?_ (by first | with_reducible assumption | omega | (simp; done) | (simp; omega)) | with_reducible refine Kept.set11 ?_ (by first | with_reducible assumption | omega | (simp; done) | (simp; omega)) | with_reducible refine Kept.set10 ?_ (by first | with_reducible assumption | omega | (simp; done) | (simp; omega)) | with_reducible refine Kept.set9 ?_ (by first | with_reducible assumption | omega | (simp; done) | (simp; omega)) | with_reducible refine Kept.set8 ?_ (by first | with_reducible assumption | omega | (simp; done) | (simp; omega)) | with_reducible refine Kept.set7 ?_ (by first | with_reducible assumption | omega | (simp; done) | (simp; omega)) | with_reducible refine Kept.set6 ?_ (by first | with_reducible assumption | omega | (simp; done) | (simp; omega)) | with_reducible refine Kept.set5 ?_ (by first | with_reducible assumption | omega | (simp; done) | (simp; omega)) | with_reducible refine Kept.set4 ?_ (by first | with_reducible assumption | omega | (simp; done) | (simp; omega)) | with_reducible refine Kept.set3 ?_ (by first | with_reducible assumption | omega | (simp; done) | (simp; omega)) | with_reducible refine Kept.set2 ?_ (by first | with_reducible assumption | omega | (simp; done) | (simp; omega)) | with_reducible refine Kept.setCell ?_ (by first | with_reducible assumption | omega | (simp; done) | (simp; omega)) _ | with_reducible refine Kept.alloc ?_ _ | with_reducible refine Kept.drewN ?_ _ | with_reducible refine Kept.drew ?_ | with_reducible refine Kept.trans ?_ (by with_reducible assumption) | with_reducible refine Kept.dr ?_ (by with_reducible assumption))))
  case rest =>
  obtain ⟨b2_0, rfl, rfl, lt2_0, O2_0, O2_1, O2_2, O2_3, O2_4, hkc2⟩ := hcut
  obtain ⟨hz_c2_0, hg_c2_0, hf_c2_0_0, hf_c2_0_1, _⟩ := O2_0
  obtain ⟨hz_c2_1, hg_c2_1, hf_c2_1_0, hf_c2_1_1, _⟩ := O2_1
  obtain ⟨hz_c2_2, hg_c2_2, hf_c2_2_0, hf_c2_2_1, _⟩ := O2_2
  obtain ⟨hz_c2_3, hg_c2_3, hf_c2_3_0, hf_c2_3_1, _⟩ := O2_3
  obtain ⟨hz_c2_4, hg_c2_4, hf_c2_4_0, hf_c2_4_1, _⟩ := O2_4
  try clear hf_c1_0_0
  try clear hf_c1_0_1
  try clear hf_c1_1_0
  try clear hf_c1_1_1
  try clear hf_c1_2_0
  try clear hf_c1_2_1
  try clear hf_c1_3_0
  try clear hf_c1_3_1
  try clear hg_c1_0
  try clear hg_c1_1
  try clear hg_c1_2
  try clear hg_c1_3
  go_wp2_with fail
  refine (HE.out _ _ _ (sw_lit2 _ s t _)).mono ?_
  rintro e w8 ⟨rfl, hk8⟩
  refine kuz (b := b2_0) hk8 (by first | (simp; done) | (simp; omega) | omega) ?_
  intro ha hb hz8_0 hn8_0 hm8_0
  have hf8_0_0 : w8.cell? ⟨b2_0, 0, none⟩ = some (.int .i64 (wh (t))) := (ha _).trans (by first | with_reducible assumption | (simp (maxDischargeDepth := 7) [go_sem]; done) | (simp (maxDischargeDepth := 7) [go_sem, *]; done))
  have hf8_0_1 : w8.cell? ⟨b2_0, 1, none⟩ = some (.int .u64 (wl (t))) := (ha _).trans (by first | with_reducible assumption | (simp (maxDischargeDepth := 7) [go_sem]; done) | (simp (maxDischargeDepth := 7) [go_sem, *]; done))
  try have hg8_0 : ∀ o, w8.frozen? ⟨b2_0, o, none⟩ = false := by intro o; rw [hb]; first | (simp (maxDischargeDepth := 7) [go_sem]; done) | (simp (maxDischargeDepth := 7) [go_sem, *]; done)
  clear ha hb
  refine kuz (b := b1_0) hk8 (by first | (simp; done) | (simp; omega) | omega) ?_
  intro ha hb hz8_1 hn8_1 hm8_1
  have hf8_1_0 : w8.cell? ⟨b1_0, 0, none⟩ = some (.int .i64 (wh (s))) := (ha _).trans (by first | with_reducible assumption | (simp (maxDischargeDepth := 7) [go_sem]; done) | (simp (maxDischargeDepth := 7) [go_sem, *]; done))
  have hf8_1_1 : w8.cell? ⟨b1_0, 1, none⟩ = some (.int .u64 (wl (s))) := (ha _).trans (by first | with_reducible assumption | (simp (maxDischargeDepth := 7) [go_sem]; done) | (simp (maxDischargeDepth := 7) [go_sem, *]; done))
  try have hg8_1 : ∀ o, w8.frozen? ⟨b1_0, o, none⟩ = false := by intro o; rw [hb]; first | (simp (maxDischargeDepth := 7) [go_sem]; done) | (simp (maxDischargeDepth := 7) [go_sem, *]; done)
  clear ha hb
  refine kuz (b := w.heap.size) hk8 (by first | (simp; done) | (simp; omega) | omega) ?_
  intro ha hb hz8_2 hn8_2 hm8_2
  have hf8_2_0 : w8.cell? ⟨w.heap.size, 0, none⟩ = some (.int .i64 a) := (ha _).trans (by first | with_reducible assumption | (simp (maxDischargeDepth := 7) [go_sem]; done) | (simp (maxDischargeDepth := 7) [go_sem, *]; done))
  have hf8_2_1 : w8.cell? ⟨w.heap.size, 1, none⟩ = some (.int .i64 b) := (ha _).trans (by first | with_reducible assumption | (simp (maxDischargeDepth := 7) [go_sem]; done) | (simp (maxDischargeDepth := 7) [go_sem, *]; done))
  try have hg8_2 : ∀ o, w8.frozen? ⟨w.heap.size, o, none⟩ = false := by intro o; rw [hb]; first | (simp (maxDischargeDepth := 7) [go_sem]; done) | (simp (maxDischargeDepth := 7) [go_sem, *]; done)
  clear ha hb
  refine kuz (b := w.heap.size + 1) hk8 (by first | (simp; done) | (simp; omega) | omega) ?_
  intro ha hb hz8_3 hn8_3 hm8_3
  have hf8_3_0 : w8.cell? ⟨w.heap.size + 1, 0, none⟩ = some (.int .i64 c) := (ha _).trans (by first | with_reducible assumption | (simp (maxDischargeDepth := 7) [go_sem]; done) | (simp (maxDischargeDepth := 7) [go_sem, *]; done))
  have hf8_3_1 : w8.cell? ⟨w.heap.size + 1, 1, none⟩ = some (.int .i64 d) := (ha _).trans (by first | with_reducible assumption | (simp (maxDischargeDepth := 7) [go_sem]; done) | (simp (maxDischargeDepth := 7) [go_sem, *]; done))
  try have hg8_3 : ∀ o, w8.frozen? ⟨w.heap.size + 1, o, none⟩ = false := by intro o; rw [hb]; first | (simp (maxDischargeDepth := 7) [go_sem]; done) | (simp (maxDischargeDepth := 7) [go_sem, *]; done)
  clear ha hb
  refine kuz (b := w.heap.size + 2) hk8 (by first | (simp; done) | (simp; omega) | omega) ?_
  intro ha hb hz8_4 hn8_4 hm8_4
  have hf8_4_0 : w8.cell? ⟨w.heap.size + 2, 0, none⟩ = some (.int .i64 0) := (ha _).trans (by first | with_reducible assumption | (simp (maxDischargeDepth := 7) [go_sem]; done) | (simp (maxDischargeDepth := 7) [go_sem, *]; done))
  have hf8_4_1 : w8.cell? ⟨w.heap.size + 2, 1, none⟩ = some (.int .i64 0) := (ha _).trans (by first | with_reducible assumption | (simp (maxDischargeDepth := 7) [go_sem]; done) | (simp (maxDischargeDepth := 7) [go_sem, *]; done))
  try have hg8_4 : ∀ o, w8.frozen? ⟨w.heap.size + 2, o, none⟩ = false := by intro o; rw [hb]; first | (simp (maxDischargeDepth := 7) [go_sem]; done) | (simp (maxDischargeDepth := 7) [go_sem, *]; done)
  clear ha hb
  try clear hf_c2_0_0
  try clear hf_c2_0_1
  try clear hf_c2_1_0
  try clear hf_c2_1_1
  try clear hf_c2_2_0
  try clear hf_c2_2_1
  try clear hf_c2_3_0
  try clear hf_c2_3_1
  try clear hf_c2_4_0
  try clear hf_c2_4_1
  try clear hg_c2_0
  try clear hg_c2_1
  try clear hg_c2_2
  try clear hg_c2_3
  try clear hg_c2_4
  go_wp2_with fail
  all_goals exact bodyPost_ret (v := .tuple #[.agg #[.int .i64 0, .int .i64 0], .int .i64 2]) (by first | (simp [results, Try.results25, go_sem]; done) | (simp (maxDischargeDepth := 7) [results, Try.results25, go_sem, *]; done)) rfl ⟨rfl, (by repeat (first | with_reducible exact Kept.refl _ | with_reducible assumption | with_reducible refine Kept.setCell ?_ (by first | (simp; done) | (simp; omega) | omega) _ | with_reducible refine Kept.alloc ?_ _ | with_reducible refine Kept.drewN ?_ _ | with_reducible refine Kept.drew ?_ | with_reducible refine Kept.trans ?_ (by with_reducible assumption) | with_reducible refine Kept.dr ?_ (by with_reducible assumption)))⟩
set_option maxHeartbeats 2000000 in
set_option maxRecDepth 100000 in
theorem ref_iadd_arg (a b c d : Int) (h : b < a ∨ a < -4611686018427387904 ∨ 4611686018427387904 < b ∨ d < c ∨ c < -4611686018427387904 ∨ 4611686018427387904 < d) (w : World) : Calls Try.prog 25 #[.agg #[.int .i64 a, .int .i64 b], .agg #[.int .i64 c, .int .i64 d]] w fun e w' => e = .returned (.tuple #[.agg #[.int .i64 0, .int .i64 0], .int .i64 1]) ∧ Kept w w' := by
  by_cases hx : b < a ∨ a < -4611686018427387904 ∨ 4611686018427387904 < b
  · have HV := Lib.hid (ref_valid_bad a b hx)
    clear h hx
    go_enter Try.func25, Try.ntmps25
    go_wp2_with fail
    with_reducible refine (HV.out _).mono ?_
    rintro e w1 ⟨rfl, hk1⟩
    refine kuz (b := w.heap.size) hk1 (by first | (simp; done) | (simp; omega) | omega) ?_
    intro ha hb hz1_0 hn1_0 hm1_0
    have hf1_0_0 : w1.cell? ⟨w.heap.size, 0, none⟩ = some (.int .i64 a) := (ha _).trans (by first | with_reducible assumption | (simp (maxDischargeDepth := 7) [go_sem]; done) | (simp (maxDischargeDepth := 7) [go_sem, *]; done))
    have hf1_0_1 : w1.cell? ⟨w.heap.size, 1, none⟩ = some (.int .i64 b) := (ha _).trans (by first | with_reducible assumption | (simp (maxDischargeDepth := 7) [go_sem]; done) | (simp (maxDischargeDepth := 7) [go_sem, *]; done))
    try have hg1_0 : ∀ o, w1.frozen? ⟨w.heap.size, o, none⟩ = false := by intro o; rw [hb]; first | (simp (maxDischargeDepth := 7) [go_sem]; done) | (simp (maxDischargeDepth := 7) [go_sem, *]; done)
    clear ha hb
    refine kuz (b := w.heap.size + 1) hk1 (by first | (simp; done) | (simp; omega) | omega) ?_
    intro ha hb hz1_1 hn1_1 hm1_1
    have hf1_1_0 : w1.cell? ⟨w.heap.size + 1, 0, none⟩ = some (.int .i64 c) := (ha _).trans (by first | with_reducible assumption | (simp (maxDischargeDepth := 7) [go_sem]; done) | (simp (maxDischargeDepth := 7) [go_sem, *]; done))
    have hf1_1_1 : w1.cell? ⟨w.heap.size + 1, 1, none⟩ = some (.int .i64 d) := (ha _).trans (by first | with_reducible assumption | (simp (maxDischargeDepth := 7) [go_sem]; done) | (simp (maxDischargeDepth := 7) [go_sem, *]; done))
    try have hg1_1 : ∀ o, w1.frozen? ⟨w.heap.size + 1, o, none⟩ = false := by intro o; rw [hb]; first | (simp (maxDischargeDepth := 7) [go_sem]; done) | (simp (maxDischargeDepth := 7) [go_sem, *]; done)
    clear ha hb
    refine kuz (b := w.heap.size + 2) hk1 (by first | (simp; done) | (simp; omega) | omega) ?_
    intro ha hb hz1_2 hn1_2 hm1_2
    have hf1_2_0 : w1.cell? ⟨w.heap.size + 2, 0, none⟩ = some (.int .i64 0) := (ha _).trans (by first | with_reducible assumption | (simp (maxDischargeDepth := 7) [go_sem]; done) | (simp (maxDischargeDepth := 7) [go_sem, *]; done))
    have hf1_2_1 : w1.cell? ⟨w.heap.size + 2, 1, none⟩ = some (.int .i64 0) := (ha _).trans (by first | with_reducible assumption | (simp (maxDischargeDepth := 7) [go_sem]; done) | (simp (maxDischargeDepth := 7) [go_sem, *]; done))
    try have hg1_2 : ∀ o, w1.frozen? ⟨w.heap.size + 2, o, none⟩ = false := by intro o; rw [hb]; first | (simp (maxDischargeDepth := 7) [go_sem]; done) | (simp (maxDischargeDepth := 7) [go_sem, *]; done)
    clear ha hb
    go_wp2_with fail
    all_goals exact bodyPost_ret (v := .tuple #[.agg #[.int .i64 0, .int .i64 0], .int .i64 1]) (by first | (simp [results, Try.results25, go_sem]; done) | (simp (maxDischargeDepth := 7) [results, Try.results25, go_sem, *]; done)) rfl ⟨rfl, (by repeat (first | with_reducible exact Kept.refl _ | with_reducible assumption | with_reducible refine Kept.setCell ?_ (by first | (simp; done) | (simp; omega) | omega) _ | with_reducible refine Kept.alloc ?_ _ | with_reducible refine Kept.drewN ?_ _ | with_reducible refine Kept.drew ?_ | with_reducible refine Kept.trans ?_ (by with_reducible assumption) | with_reducible refine Kept.dr ?_ (by with_reducible assumption)))⟩
  have hy : d < c ∨ c < -4611686018427387904 ∨ 4611686018427387904 < d := by omega
  have HV0 := Lib.hid (ref_valid_ok a b (by omega) (by omega) (by omega))
  have HV := Lib.hid (ref_valid_bad c d hy)
  clear h hx hy
  go_enter Try.func25, Try.ntmps25
  go_wp2_with fail
  with_reducible refine (HV0.out _).mono ?_
  rintro e w1 ⟨rfl, hk1⟩
  refine kuz (b := w.heap.size) hk1 (by first | (simp; done) | (simp; omega) | omega) ?_
  intro ha hb hz1_0 hn1_0 hm1_0
  have hf1_0_0 : w1.cell? ⟨w.heap.size, 0, none⟩ = some (.int .i64 a) := (ha _).trans (by first | with_reducible assumption | (simp (maxDischargeDepth := 7) [go_sem]; done) | (simp (maxDischargeDepth := 7) [go_sem, *]; done))
  have hf1_0_1 : w1.cell? ⟨w.heap.size, 1, none⟩ = some (.int .i64 b) := (ha _).trans (by first | with_reducible assumption | (simp (maxDischargeDepth := 7) [go_sem]; done) | (simp (maxDischargeDepth := 7) [go_sem, *]; done))
  try have hg1_0 : ∀ o, w1.frozen? ⟨w.heap.size, o, none⟩ = false := by intro o; rw [hb]; first | (simp (maxDischargeDepth := 7) [go_sem]; done) | (simp (maxDischargeDepth := 7) [go_sem, *]; done)
  clear ha hb
  refine kuz (b := w.heap.size + 1) hk1 (by first | (simp; done) | (simp; omega) | omega) ?_
  intro ha hb hz1_1 hn1_1 hm1_1
  have hf1_1_0 : w1.cell? ⟨w.heap.size + 1, 0, none⟩ = some (.int .i64 c) := (ha _).trans (by first | with_reducible assumption | (simp (maxDischargeDepth := 7) [go_sem]; done) | (simp (maxDischargeDepth := 7) [go_sem, *]; done))
  have hf1_1_1 : w1.cell? ⟨w.heap.size + 1, 1, none⟩ = some (.int .i64 d) := (ha _).trans (by first | with_reducible assumption | (simp (maxDischargeDepth := 7) [go_sem]; done) | (simp (maxDischargeDepth := 7) [go_sem, *]; done))
  try have hg1_1 : ∀ o, w1.frozen? ⟨w.heap.size + 1, o, none⟩ = false := by intro o; rw [hb]; first | (simp (maxDischargeDepth := 7) [go_sem]; done) | (simp (maxDischargeDepth := 7) [go_sem, *]; done)
  clear ha hb
  refine kuz (b := w.heap.size + 2) hk1 (by first | (simp; done) | (simp; omega) | omega) ?_
  intro ha hb hz1_2 hn1_2 hm1_2
  have hf1_2_0 : w1.cell? ⟨w.heap.size + 2, 0, none⟩ = some (.int .i64 0) := (ha _).trans (by first | with_reducible assumption | (simp (maxDischargeDepth := 7) [go_sem]; done) | (simp (maxDischargeDepth := 7) [go_sem, *]; done))
  have hf1_2_1 : w1.cell? ⟨w.heap.size + 2, 1, none⟩ = some (.int .i64 0) := (ha _).trans (by first | with_reducible assumption | (simp (maxDischargeDepth := 7) [go_sem]; done) | (simp (maxDischargeDepth := 7) [go_sem, *]; done))
  try have hg1_2 : ∀ o, w1.frozen? ⟨w.heap.size + 2, o, none⟩ = false := by intro o; rw [hb]; first | (simp (maxDischargeDepth := 7) [go_sem]; done) | (simp (maxDischargeDepth := 7) [go_sem, *]; done)
  clear ha hb
  go_wp2_with fail
  with_reducible refine (HV.out _).mono ?_
  rintro e w2 ⟨rfl, hk2⟩
  refine kuz (b := w.heap.size) hk2 (by first | (simp; done) | (simp; omega) | omega) ?_
  intro ha hb hz2_0 hn2_0 hm2_0
  have hf2_0_0 : w2.cell? ⟨w.heap.size, 0, none⟩ = some (.int .i64 a) := (ha _).trans (by first | with_reducible assumption | (simp (maxDischargeDepth := 7) [go_sem]; done) | (simp (maxDischargeDepth := 7) [go_sem, *]; done))
  have hf2_0_1 : w2.cell? ⟨w.heap.size, 1, none⟩ = some (.int .i64 b) := (ha _).trans (by first | with_reducible assumption | (simp (maxDischargeDepth := 7) [go_sem]; done) | (simp (maxDischargeDepth := 7) [go_sem, *]; done))
  try have hg2_0 : ∀ o, w2.frozen? ⟨w.heap.size, o, none⟩ = false := by intro o; rw [hb]; first | (simp (maxDischargeDepth := 7) [go_sem]; done) | (simp (maxDischargeDepth := 7) [go_sem, *]; done)
  clear ha hb
  refine kuz (b := w.heap.size + 1) hk2 (by first | (simp; done) | (simp; omega) | omega) ?_
  intro ha hb hz2_1 hn2_1 hm2_1
  have hf2_1_0 : w2.cell? ⟨w.heap.size + 1, 0, none⟩ = some (.int .i64 c) := (ha _).trans (by first | with_reducible assumption | (simp (maxDischargeDepth := 7) [go_sem]; done) | (simp (maxDischargeDepth := 7) [go_sem, *]; done))
  have hf2_1_1 : w2.cell? ⟨w.heap.size + 1, 1, none⟩ = some (.int .i64 d) := (ha _).trans (by first | with_reducible assumption | (simp (maxDischargeDepth := 7) [go_sem]; done) | (simp (maxDischargeDepth := 7) [go_sem, *]; done))
  try have hg2_1 : ∀ o, w2.frozen? ⟨w.heap.size + 1, o, none⟩ = false := by intro o; rw [hb]; first | (simp (maxDischargeDepth := 7) [go_sem]; done) | (simp (maxDischargeDepth := 7) [go_sem, *]; done)
  clear ha hb
  refine kuz (b := w.heap.size + 2) hk2 (by first | (simp; done) | (simp; omega) | omega) ?_
  intro ha hb hz2_2 hn2_2 hm2_2
  have hf2_2_0 : w2.cell? ⟨w.heap.size + 2, 0, none⟩ = some (.int .i64 0) := (ha _).trans (by first | with_reducible assumption | (simp (maxDischargeDepth := 7) [go_sem]; done) | (simp (maxDischargeDepth := 7) [go_sem, *]; done))
  have hf2_2_1 : w2.cell? ⟨w.heap.size + 2, 1, none⟩ = some (.int .i64 0) := (ha _).trans (by first | with_reducible assumption | (simp (maxDischargeDepth := 7) [go_sem]; done) | (simp (maxDischargeDepth := 7) [go_sem, *]; done))
  try have hg2_2 : ∀ o, w2.frozen? ⟨w.heap.size + 2, o, none⟩ = false := by intro o; rw [hb]; first | (simp (maxDischargeDepth := 7) [go_sem]; done) | (simp (maxDischargeDepth := 7) [go_sem, *]; done)
  clear ha hb
  try clear hf1_0_0
  try clear hf1_0_1
  try clear hf1_1_0
  try clear hf1_1_1
  try clear hf1_2_0
  try clear hf1_2_1
  try clear hg1_0
  try clear hg1_1
  try clear hg1_2
  try clear hz1_1
  try clear hz1_2
  go_wp2_with fail
  all_goals exact bodyPost_ret (v := .tuple #[.agg #[.int .i64 0, .int .i64 0], .int .i64 1]) (by first | (simp [results, Try.results25, go_sem]; done) | (simp (maxDischargeDepth := 7) [results, Try.results25, go_sem, *]; done)) rfl ⟨rfl, (by repeat (first | with_reducible exact Kept.refl _ | with_reducible assumption | with_reducible refine Kept.setCell ?_ (by first | (simp; done) | (simp; omega) | omega) _ | with_reducible refine Kept.alloc ?_ _ | with_reducible refine Kept.drewN ?_ _ | with_reducible refine Kept.drew ?_ | with_reducible refine Kept.trans ?_ (by with_reducible assumption) | with_reducible refine Kept.dr ?_ (by with_reducible assumption)))⟩
set_option maxHeartbeats 2000000 in
set_option maxRecDepth 100000 in
theorem ref_isub_ok (a b c d : Int) (x1 : a ≤ b) (x2 : -4611686018427387904 ≤ a) (x3 : b ≤ 4611686018427387904) (y1 : c ≤ d) (y2 : -4611686018427387904 ≤ c) (y3 : d ≤ 4611686018427387904) (k1 : -4611686018427387904 ≤ a - d) (k3 : b - c ≤ 4611686018427387904) (w : World) : Calls Try.prog 27 #[.agg #[.int .i64 a, .int .i64 b], .agg #[.int .i64 c, .int .i64 d]] w fun e w' => e = .returned (.tuple #[.agg #[.int .i64 (a - d), .int .i64 (b - c)], .int .i64 0]) ∧ Kept w w' := by
  have HN := Lib.hid (ref_ineg_ok c d y1 y2 y3)
  have HI := ref_iadd_ok a b (-d) (-c) x1 x2 x3 (by omega) (by omega) (by omega) (by omega) (by omega)
  rw [show a + -d = a - d by omega, show b + -c = b - c by omega] at HI
  have HA := Lib.hid HI
  clear HI y1 y2 y3 x1 x2 x3 k1 k3
  go_enter Try.func27, Try.ntmps27
  go_wp2_with fail
  with_reducible refine (HN.out _).mono ?_
  rintro e w1 ⟨rfl, hk1⟩
  refine kuz (b := w.heap.size) hk1 (by first | (simp; done) | (simp; omega) | omega) ?_
  intro ha hb hz1_0 hn1_0 hm1_0
  have hf1_0_0 : w1.cell? ⟨w.heap.size, 0, none⟩ = some (.int .i64 a) := (ha _).trans (by first | with_reducible assumption | (simp (maxDischargeDepth := 7) [go_sem]; done) | (simp (maxDischargeDepth := 7) [go_sem, *]; done))
  have hf1_0_1 : w1.cell? ⟨w.heap.size, 1, none⟩ = some (.int .i64 b) := (ha _).trans (by first | with_reducible assumption | (simp (maxDischargeDepth := 7) [go_sem]; done) | (simp (maxDischargeDepth := 7) [go_sem, *]; done))
  try have hg1_0 : ∀ o, w1.frozen? ⟨w.heap.size, o, none⟩ = false := by intro o; rw [hb]; first | (simp (maxDischargeDepth := 7) [go_sem]; done) | (simp (maxDischargeDepth := 7) [go_sem, *]; done)
  clear ha hb
  refine kuz (b := w.heap.size + 1) hk1 (by first | (simp; done) | (simp; omega) | omega) ?_
  intro ha hb hz1_1 hn1_1 hm1_1
  have hf1_1_0 : w1.cell? ⟨w.heap.size + 1, 0, none⟩ = some (.int .i64 c) := (ha _).trans (by first | with_reducible assumption | (simp (maxDischargeDepth := 7) [go_sem]; done) | (simp (maxDischargeDepth := 7) [go_sem, *]; done))
  have hf1_1_1 : w1.cell? ⟨w.heap.size + 1, 1, none⟩ = some (.int .i64 d) := (ha _).trans (by first | with_reducible assumption | (simp (maxDischargeDepth := 7) [go_sem]; done) | (simp (maxDischargeDepth := 7) [go_sem, *]; done))
  try have hg1_1 : ∀ o, w1.frozen? ⟨w.heap.size + 1, o, none⟩ = false := by intro o; rw [hb]; first | (simp (maxDischargeDepth := 7) [go_sem]; done) | (simp (maxDischargeDepth := 7) [go_sem, *]; done)
  clear ha hb
  refine kuz (b := w.heap.size + 2) hk1 (by first | (simp; done) | (simp; omega) | omega) ?_
  intro ha hb hz1_2 hn1_2 hm1_2
  have hf1_2_0 : w1.cell? ⟨w.heap.size + 2, 0, none⟩ = some (.int .i64 0) := (ha _).trans (by first | with_reducible assumption | (simp (maxDischargeDepth := 7) [go_sem]; done) | (simp (maxDischargeDepth := 7) [go_sem, *]; done))
  have hf1_2_1 : w1.cell? ⟨w.heap.size + 2, 1, none⟩ = some (.int .i64 0) := (ha _).trans (by first | with_reducible assumption | (simp (maxDischargeDepth := 7) [go_sem]; done) | (simp (maxDischargeDepth := 7) [go_sem, *]; done))
  try have hg1_2 : ∀ o, w1.frozen? ⟨w.heap.size + 2, o, none⟩ = false := by intro o; rw [hb]; first | (simp (maxDischargeDepth := 7) [go_sem]; done) | (simp (maxDischargeDepth := 7) [go_sem, *]; done)
  clear ha hb
  go_wp2_with fail
  with_reducible refine (HA.out _).mono ?_
  rintro e w2 ⟨rfl, hk2⟩
  refine kuz (b := w.heap.size) hk2 (by first | (simp; done) | (simp; omega) | omega) ?_
  intro ha hb hz2_0 hn2_0 hm2_0
  have hf2_0_0 : w2.cell? ⟨w.heap.size, 0, none⟩ = some (.int .i64 a) := (ha _).trans (by first | with_reducible assumption | (simp (maxDischargeDepth := 7) [go_sem]; done) | (simp (maxDischargeDepth := 7) [go_sem, *]; done))
  have hf2_0_1 : w2.cell? ⟨w.heap.size, 1, none⟩ = some (.int .i64 b) := (ha _).trans (by first | with_reducible assumption | (simp (maxDischargeDepth := 7) [go_sem]; done) | (simp (maxDischargeDepth := 7) [go_sem, *]; done))
  try have hg2_0 : ∀ o, w2.frozen? ⟨w.heap.size, o, none⟩ = false := by intro o; rw [hb]; first | (simp (maxDischargeDepth := 7) [go_sem]; done) | (simp (maxDischargeDepth := 7) [go_sem, *]; done)
  clear ha hb
  refine kuz (b := w.heap.size + 1) hk2 (by first | (simp; done) | (simp; omega) | omega) ?_
  intro ha hb hz2_1 hn2_1 hm2_1
  have hf2_1_0 : w2.cell? ⟨w.heap.size + 1, 0, none⟩ = some (.int .i64 c) := (ha _).trans (by first | with_reducible assumption | (simp (maxDischargeDepth := 7) [go_sem]; done) | (simp (maxDischargeDepth := 7) [go_sem, *]; done))
  have hf2_1_1 : w2.cell? ⟨w.heap.size + 1, 1, none⟩ = some (.int .i64 d) := (ha _).trans (by first | with_reducible assumption | (simp (maxDischargeDepth := 7) [go_sem]; done) | (simp (maxDischargeDepth := 7) [go_sem, *]; done))
  try have hg2_1 : ∀ o, w2.frozen? ⟨w.heap.size + 1, o, none⟩ = false := by intro o; rw [hb]; first | (simp (maxDischargeDepth := 7) [go_sem]; done) | (simp (maxDischargeDepth := 7) [go_sem, *]; done)
  clear ha hb
  refine kuz (b := w.heap.size + 2) hk2 (by first | (simp; done) | (simp; omega) | omega) ?_
  intro ha hb hz2_2 hn2_2 hm2_2
  have hf2_2_0 : w2.cell? ⟨w.heap.size + 2, 0, none⟩ = some (.int .i64 0) := (ha _).trans (by first | with_reducible assumption | (simp (maxDischargeDepth := 7) [go_sem]; done) | (simp (maxDischargeDepth := 7) [go_sem, *]; done))
  have hf2_2_1 : w2.cell? ⟨w.heap.size + 2, 1, none⟩ = some (.int .i64 0) := (ha _).trans (by first | with_reducible assumption | (simp (maxDischargeDepth := 7) [go_sem]; done) | (simp (maxDischargeDepth := 7) [go_sem, *]; done))
  try have hg2_2 : ∀ o, w2.frozen? ⟨w.heap.size + 2, o, none⟩ = false := by intro o; rw [hb]; first | (simp (maxDischargeDepth := 7) [go_sem]; done) | (simp (maxDischargeDepth := 7) [go_sem, *]; done)
  clear ha hb
  refine kuz (b := w1.heap.size) hk2 (by first | (simp; done) | (simp; omega) | omega) ?_
  intro ha hb hz2_3 hn2_3 hm2_3
  have hf2_3_0 : w2.cell? ⟨w1.heap.size, 0, none⟩ = some (.int .i64 (-d)) := (ha _).trans (by first | with_reducible assumption | (simp (maxDischargeDepth := 7) [go_sem]; done) | (simp (maxDischargeDepth := 7) [go_sem, *]; done))
  have hf2_3_1 : w2.cell? ⟨w1.heap.size, 1, none⟩ = some (.int .i64 (-c)) := (ha _).trans (by first | with_reducible assumption | (simp (maxDischargeDepth := 7) [go_sem]; done) | (simp (maxDischargeDepth := 7) [go_sem, *]; done))
  try have hg2_3 : ∀ o, w2.frozen? ⟨w1.heap.size, o, none⟩ = false := by intro o; rw [hb]; first | (simp (maxDischargeDepth := 7) [go_sem]; done) | (simp (maxDischargeDepth := 7) [go_sem, *]; done)
  clear ha hb
  try clear hf1_0_0
  try clear hf1_0_1
  try clear hf1_1_0
  try clear hf1_1_1
  try clear hf1_2_0
  try clear hf1_2_1
  try clear hg1_0
  try clear hg1_1
  try clear hg1_2
  try clear hz1_1
  try clear hz1_2
  go_wp2_with fail
  all_goals exact bodyPost_ret (v := .tuple #[.agg #[.int .i64 (a - d), .int .i64 (b - c)], .int .i64 0]) (by first | (simp [results, Try.results27, go_sem]; done) | (simp (maxDischargeDepth := 7) [results, Try.results27, go_sem, *]; done)) rfl ⟨rfl, (by repeat (first | with_reducible exact Kept.refl _ | with_reducible assumption | with_reducible refine Kept.setCell ?_ (by first | (simp; done) | (simp; omega) | omega) _ | with_reducible refine Kept.alloc ?_ _ | with_reducible refine Kept.drewN ?_ _ | with_reducible refine Kept.drew ?_ | with_reducible refine Kept.trans ?_ (by with_reducible assumption) | with_reducible refine Kept.dr ?_ (by with_reducible assumption)))⟩
set_option maxHeartbeats 2000000 in
set_option maxRecDepth 100000 in
theorem ref_isub_bad (a b c d : Int) (x1 : a ≤ b) (x2 : -4611686018427387904 ≤ a) (x3 : b ≤ 4611686018427387904) (y1 : c ≤ d) (y2 : -4611686018427387904 ≤ c) (y3 : d ≤ 4611686018427387904) (kb : a - d < -4611686018427387904 ∨ 4611686018427387904 < b - c) (w : World) : Calls Try.prog 27 #[.agg #[.int .i64 a, .int .i64 b], .agg #[.int .i64 c, .int .i64 d]] w fun e w' => e = .returned (.tuple #[.agg #[.int .i64 0, .int .i64 0], .int .i64 2]) ∧ Kept w w' := by
  have HN := Lib.hid (ref_ineg_ok c d y1 y2 y3)
  have HI := ref_iadd_bad a b (-d) (-c) x1 x2 x3 (by omega) (by omega) (by omega) (by omega)
  have HA := Lib.hid HI
  clear HI y1 y2 y3 x1 x2 x3 kb
  go_enter Try.func27, Try.ntmps27
  go_wp2_with fail
  with_reducible refine (HN.out _).mono ?_
  rintro e w1 ⟨rfl, hk1⟩
  refine kuz (b := w.heap.size) hk1 (by first | (simp; done) | (simp; omega) | omega) ?_
  intro ha hb hz1_0 hn1_0 hm1_0
  have hf1_0_0 : w1.cell? ⟨w.heap.size, 0, none⟩ = some (.int .i64 a) := (ha _).trans (by first | with_reducible assumption | (simp (maxDischargeDepth := 7) [go_sem]; done) | (simp (maxDischargeDepth := 7) [go_sem, *]; done))
  have hf1_0_1 : w1.cell? ⟨w.heap.size, 1, none⟩ = some (.int .i64 b) := (ha _).trans (by first | with_reducible assumption | (simp (maxDischargeDepth := 7) [go_sem]; done) | (simp (maxDischargeDepth := 7) [go_sem, *]; done))
  try have hg1_0 : ∀ o, w1.frozen? ⟨w.heap.size, o, none⟩ = false := by intro o; rw [hb]; first | (simp (maxDischargeDepth := 7) [go_sem]; done) | (simp (maxDischargeDepth := 7) [go_sem, *]; done)
  clear ha hb
  refine kuz (b := w.heap.size + 1) hk1 (by first | (simp; done) | (simp; omega) | omega) ?_
  intro ha hb hz1_1 hn1_1 hm1_1
  have hf1_1_0 : w1.cell? ⟨w.heap.size + 1, 0, none⟩ = some (.int .i64 c) := (ha _).trans (by first | with_reducible assumption | (simp (maxDischargeDepth := 7) [go_sem]; done) | (simp (maxDischargeDepth := 7) [go_sem, *]; done))
  have hf1_1_1 : w1.cell? ⟨w.heap.size + 1, 1, none⟩ = some (.int .i64 d) := (ha _).trans (by first | with_reducible assumption | (simp (maxDischargeDepth := 7) [go_sem]; done) | (simp (maxDischargeDepth := 7) [go_sem, *]; done))
  try have hg1_1 : ∀ o, w1.frozen? ⟨w.heap.size + 1, o, none⟩ = false := by intro o; rw [hb]; first | (simp (maxDischargeDepth := 7) [go_sem]; done) | (simp (maxDischargeDepth := 7) [go_sem, *]; done)
  clear ha hb
  refine kuz (b := w.heap.size + 2) hk1 (by first | (simp; done) | (simp; omega) | omega) ?_
  intro ha hb hz1_2 hn1_2 hm1_2
  have hf1_2_0 : w1.cell? ⟨w.heap.size + 2, 0, none⟩ = some (.int .i64 0) := (ha _).trans (by first | with_reducible assumption | (simp (maxDischargeDepth := 7) [go_sem]; done) | (simp (maxDischargeDepth := 7) [go_sem, *]; done))
  have hf1_2_1 : w1.cell? ⟨w.heap.size + 2, 1, none⟩ = some (.int .i64 0) := (ha _).trans (by first | with_reducible assumption | (simp (maxDischargeDepth := 7) [go_sem]; done) | (simp (maxDischargeDepth := 7) [go_sem, *]; done))
  try have hg1_2 : ∀ o, w1.frozen? ⟨w.heap.size + 2, o, none⟩ = false := by intro o; rw [hb]; first | (simp (maxDischargeDepth := 7) [go_sem]; done) | (simp (maxDischargeDepth := 7) [go_sem, *]; done)
  clear ha hb
  go_wp2_with fail
  with_reducible refine (HA.out _).mono ?_
  rintro e w2 ⟨rfl, hk2⟩
  refine kuz (b := w.heap.size) hk2 (by first | (simp; done) | (simp; omega) | omega) ?_
  intro ha hb hz2_0 hn2_0 hm2_0
  have hf2_0_0 : w2.cell? ⟨w.heap.size, 0, none⟩ = some (.int .i64 a) := (ha _).trans (by first | with_reducible assumption | (simp (maxDischargeDepth := 7) [go_sem]; done) | (simp (maxDischargeDepth := 7) [go_sem, *]; done))
  have hf2_0_1 : w2.cell? ⟨w.heap.size, 1, none⟩ = some (.int .i64 b) := (ha _).trans (by first | with_reducible assumption | (simp (maxDischargeDepth := 7) [go_sem]; done) | (simp (maxDischargeDepth := 7) [go_sem, *]; done))
  try have hg2_0 : ∀ o, w2.frozen? ⟨w.heap.size, o, none⟩ = false := by intro o; rw [hb]; first | (simp (maxDischargeDepth := 7) [go_sem]; done) | (simp (maxDischargeDepth := 7) [go_sem, *]; done)
  clear ha hb
  refine kuz (b := w.heap.size + 1) hk2 (by first | (simp; done) | (simp; omega) | omega) ?_
  intro ha hb hz2_1 hn2_1 hm2_1
  have hf2_1_0 : w2.cell? ⟨w.heap.size + 1, 0, none⟩ = some (.int .i64 c) := (ha _).trans (by first | with_reducible assumption | (simp (maxDischargeDepth := 7) [go_sem]; done) | (simp (maxDischargeDepth := 7) [go_sem, *]; done))
  have hf2_1_1 : w2.cell? ⟨w.heap.size + 1, 1, none⟩ = some (.int .i64 d) := (ha _).trans (by first | with_reducible assumption | (simp (maxDischargeDepth := 7) [go_sem]; done) | (simp (maxDischargeDepth := 7) [go_sem, *]; done))
  try have hg2_1 : ∀ o, w2.frozen? ⟨w.heap.size + 1, o, none⟩ = false := by intro o; rw [hb]; first | (simp (maxDischargeDepth := 7) [go_sem]; done) | (simp (maxDischargeDepth := 7) [go_sem, *]; done)
  clear ha hb
  refine kuz (b := w.heap.size + 2) hk2 (by first | (simp; done) | (simp; omega) | omega) ?_
  intro ha hb hz2_2 hn2_2 hm2_2
  have hf2_2_0 : w2.cell? ⟨w.heap.size + 2, 0, none⟩ = some (.int .i64 0) := (ha _).trans (by first | with_reducible assumption | (simp (maxDischargeDepth := 7) [go_sem]; done) | (simp (maxDischargeDepth := 7) [go_sem, *]; done))
  have hf2_2_1 : w2.cell? ⟨w.heap.size + 2, 1, none⟩ = some (.int .i64 0) := (ha _).trans (by first | with_reducible assumption | (simp (maxDischargeDepth := 7) [go_sem]; done) | (simp (maxDischargeDepth := 7) [go_sem, *]; done))
  try have hg2_2 : ∀ o, w2.frozen? ⟨w.heap.size + 2, o, none⟩ = false := by intro o; rw [hb]; first | (simp (maxDischargeDepth := 7) [go_sem]; done) | (simp (maxDischargeDepth := 7) [go_sem, *]; done)
  clear ha hb
  refine kuz (b := w1.heap.size) hk2 (by first | (simp; done) | (simp; omega) | omega) ?_
  intro ha hb hz2_3 hn2_3 hm2_3
  have hf2_3_0 : w2.cell? ⟨w1.heap.size, 0, none⟩ = some (.int .i64 (-d)) := (ha _).trans (by first | with_reducible assumption | (simp (maxDischargeDepth := 7) [go_sem]; done) | (simp (maxDischargeDepth := 7) [go_sem, *]; done))
  have hf2_3_1 : w2.cell? ⟨w1.heap.size, 1, none⟩ = some (.int .i64 (-c)) := (ha _).trans (by first | with_reducible assumption | (simp (maxDischargeDepth := 7) [go_sem]; done) | (simp (maxDischargeDepth := 7) [go_sem, *]; done))
  try have hg2_3 : ∀ o, w2.frozen? ⟨w1.heap.size, o, none⟩ = false := by intro o; rw [hb]; first | (simp (maxDischargeDepth := 7) [go_sem]; done) | (simp (maxDischargeDepth := 7) [go_sem, *]; done)
  clear ha hb
  try clear hf1_0_0
  try clear hf1_0_1
  try clear hf1_1_0
  try clear hf1_1_1
  try clear hf1_2_0
  try clear hf1_2_1
  try clear hg1_0
  try clear hg1_1
  try clear hg1_2
  try clear hz1_1
  try clear hz1_2
  go_wp2_with fail
  all_goals exact bodyPost_ret (v := .tuple #[.agg #[.int .i64 0, .int .i64 0], .int .i64 2]) (by first | (simp [results, Try.results27, go_sem]; done) | (simp (maxDischargeDepth := 7) [results, Try.results27, go_sem, *]; done)) rfl ⟨rfl, (by repeat (first | with_reducible exact Kept.refl _ | with_reducible assumption | with_reducible refine Kept.setCell ?_ (by first | (simp; done) | (simp; omega) | omega) _ | with_reducible refine Kept.alloc ?_ _ | with_reducible refine Kept.drewN ?_ _ | with_reducible refine Kept.drew ?_ | with_reducible refine Kept.trans ?_ (by with_reducible assumption) | with_reducible refine Kept.dr ?_ (by with_reducible assumption)))⟩
set_option maxHeartbeats 2000000 in
set_option maxRecDepth 100000 in
theorem ref_isub_arg (a b c d : Int) (h : b < a ∨ a < -4611686018427387904 ∨ 4611686018427387904 < b) (y1 : c ≤ d) (y2 : -4611686018427387904 ≤ c) (y3 : d ≤ 4611686018427387904) (w : World) : Calls Try.prog 27 #[.agg #[.int .i64 a, .int .i64 b], .agg #[.int .i64 c, .int .i64 d]] w fun e w' => e = .returned (.tuple #[.agg #[.int .i64 0, .int .i64 0], .int .i64 1]) ∧ Kept w w' := by
  have HN := Lib.hid (ref_ineg_ok c d y1 y2 y3)
  have HI := ref_iadd_arg a b (-d) (-c) (Or.elim h (fun h => Or.inl h) (fun h => Or.elim h (fun h => Or.inr (Or.inl h)) (fun h => Or.inr (Or.inr (Or.inl h)))))
  have HA := Lib.hid HI
  clear HI y1 y2 y3 h
  go_enter Try.func27, Try.ntmps27
  go_wp2_with fail
  with_reducible refine (HN.out _).mono ?_
  rintro e w1 ⟨rfl, hk1⟩
  refine kuz (b := w.heap.size) hk1 (by first | (simp; done) | (simp; omega) | omega) ?_
  intro ha hb hz1_0 hn1_0 hm1_0
  have hf1_0_0 : w1.cell? ⟨w.heap.size, 0, none⟩ = some (.int .i64 a) := (ha _).trans (by first | with_reducible assumption | (simp (maxDischargeDepth := 7) [go_sem]; done) | (simp (maxDischargeDepth := 7) [go_sem, *]; done))
  have hf1_0_1 : w1.cell? ⟨w.heap.size, 1, none⟩ = some (.int .i64 b) := (ha _).trans (by first | with_reducible assumption | (simp (maxDischargeDepth := 7) [go_sem]; done) | (simp (maxDischargeDepth := 7) [go_sem, *]; done))
  try have hg1_0 : ∀ o, w1.frozen? ⟨w.heap.size, o, none⟩ = false := by intro o; rw [hb]; first | (simp (maxDischargeDepth := 7) [go_sem]; done) | (simp (maxDischargeDepth := 7) [go_sem, *]; done)
  clear ha hb
  refine kuz (b := w.heap.size + 1) hk1 (by first | (simp; done) | (simp; omega) | omega) ?_
  intro ha hb hz1_1 hn1_1 hm1_1
  have hf1_1_0 : w1.cell? ⟨w.heap.size + 1, 0, none⟩ = some (.int .i64 c) := (ha _).trans (by first | with_reducible assumption | (simp (maxDischargeDepth := 7) [go_sem]; done) | (simp (maxDischargeDepth := 7) [go_sem, *]; done))
  have hf1_1_1 : w1.cell? ⟨w.heap.size + 1, 1, none⟩ = some (.int .i64 d) := (ha _).trans (by first | with_reducible assumption | (simp (maxDischargeDepth := 7) [go_sem]; done) | (simp (maxDischargeDepth := 7) [go_sem, *]; done))
  try have hg1_1 : ∀ o, w1.frozen? ⟨w.heap.size + 1, o, none⟩ = false := by intro o; rw [hb]; first | (simp (maxDischargeDepth := 7) [go_sem]; done) | (simp (maxDischargeDepth := 7) [go_sem, *]; done)
  clear ha hb
  refine kuz (b := w.heap.size + 2) hk1 (by first | (simp; done) | (simp; omega) | omega) ?_
  intro ha hb hz1_2 hn1_2 hm1_2
  have hf1_2_0 : w1.cell? ⟨w.heap.size + 2, 0, none⟩ = some (.int .i64 0) := (ha _).trans (by first | with_reducible assumption | (simp (maxDischargeDepth := 7) [go_sem]; done) | (simp (maxDischargeDepth := 7) [go_sem, *]; done))
  have hf1_2_1 : w1.cell? ⟨w.heap.size + 2, 1, none⟩ = some (.int .i64 0) := (ha _).trans (by first | with_reducible assumption | (simp (maxDischargeDepth := 7) [go_sem]; done) | (simp (maxDischargeDepth := 7) [go_sem, *]; done))
  try have hg1_2 : ∀ o, w1.frozen? ⟨w.heap.size + 2, o, none⟩ = false := by intro o; rw [hb]; first | (simp (maxDischargeDepth := 7) [go_sem]; done) | (simp (maxDischargeDepth := 7) [go_sem, *]; done)
  clear ha hb
  go_wp2_with fail
  with_reducible refine (HA.out _).mono ?_
  rintro e w2 ⟨rfl, hk2⟩
  refine kuz (b := w.heap.size) hk2 (by first | (simp; done) | (simp; omega) | omega) ?_
  intro ha hb hz2_0 hn2_0 hm2_0
  have hf2_0_0 : w2.cell? ⟨w.heap.size, 0, none⟩ = some (.int .i64 a) := (ha _).trans (by first | with_reducible assumption | (simp (maxDischargeDepth := 7) [go_sem]; done) | (simp (maxDischargeDepth := 7) [go_sem, *]; done))
  have hf2_0_1 : w2.cell? ⟨w.heap.size, 1, none⟩ = some (.int .i64 b) := (ha _).trans (by first | with_reducible assumption | (simp (maxDischargeDepth := 7) [go_sem]; done) | (simp (maxDischargeDepth := 7) [go_sem, *]; done))
  try have hg2_0 : ∀ o, w2.frozen? ⟨w.heap.size, o, none⟩ = false := by intro o; rw [hb]; first | (simp (maxDischargeDepth := 7) [go_sem]; done) | (simp (maxDischargeDepth := 7) [go_sem, *]; done)
  clear ha hb
  refine kuz (b := w.heap.size + 1) hk2 (by first | (simp; done) | (simp; omega) | omega) ?_
  intro ha hb hz2_1 hn2_1 hm2_1
  have hf2_1_0 : w2.cell? ⟨w.heap.size + 1, 0, none⟩ = some (.int .i64 c) := (ha _).trans (by first | with_reducible assumption | (simp (maxDischargeDepth := 7) [go_sem]; done) | (simp (maxDischargeDepth := 7) [go_sem, *]; done))
  have hf2_1_1 : w2.cell? ⟨w.heap.size + 1, 1, none⟩ = some (.int .i64 d) := (ha _).trans (by first | with_reducible assumption | (simp (maxDischargeDepth := 7) [go_sem]; done) | (simp (maxDischargeDepth := 7) [go_sem, *]; done))
  try have hg2_1 : ∀ o, w2.frozen? ⟨w.heap.size + 1, o, none⟩ = false := by intro o; rw [hb]; first | (simp (maxDischargeDepth := 7) [go_sem]; done) | (simp (maxDischargeDepth := 7) [go_sem, *]; done)
  clear ha hb
  refine kuz (b := w.heap.size + 2) hk2 (by first | (simp; done) | (simp; omega) | omega) ?_
  intro ha hb hz2_2 hn2_2 hm2_2
  have hf2_2_0 : w2.cell? ⟨w.heap.size + 2, 0, none⟩ = some (.int .i64 0) := (ha _).trans (by first | with_reducible assumption | (simp (maxDischargeDepth := 7) [go_sem]; done) | (simp (maxDischargeDepth := 7) [go_sem, *]; done))
  have hf2_2_1 : w2.cell? ⟨w.heap.size + 2, 1, none⟩ = some (.int .i64 0) := (ha _).trans (by first | with_reducible assumption | (simp (maxDischargeDepth := 7) [go_sem]; done) | (simp (maxDischargeDepth := 7) [go_sem, *]; done))
  try have hg2_2 : ∀ o, w2.frozen? ⟨w.heap.size + 2, o, none⟩ = false := by intro o; rw [hb]; first | (simp (maxDischargeDepth := 7) [go_sem]; done) | (simp (maxDischargeDepth := 7) [go_sem, *]; done)
  clear ha hb
  refine kuz (b := w1.heap.size) hk2 (by first | (simp; done) | (simp; omega) | omega) ?_
  intro ha hb hz2_3 hn2_3 hm2_3
  have hf2_3_0 : w2.cell? ⟨w1.heap.size, 0, none⟩ = some (.int .i64 (-d)) := (ha _).trans (by first | with_reducible assumption | (simp (maxDischargeDepth := 7) [go_sem]; done) | (simp (maxDischargeDepth := 7) [go_sem, *]; done))
  have hf2_3_1 : w2.cell? ⟨w1.heap.size, 1, none⟩ = some (.int .i64 (-c)) := (ha _).trans (by first | with_reducible assumption | (simp (maxDischargeDepth := 7) [go_sem]; done) | (simp (maxDischargeDepth := 7) [go_sem, *]; done))
  try have hg2_3 : ∀ o, w2.frozen? ⟨w1.heap.size, o, none⟩ = false := by intro o; rw [hb]; first | (simp (maxDischargeDepth := 7) [go_sem]; done) | (simp (maxDischargeDepth := 7) [go_sem, *]; done)
  clear ha hb
  try clear hf1_0_0
  try clear hf1_0_1
  try clear hf1_1_0
  try clear hf1_1_1
  try clear hf1_2_0
  try clear hf1_2_1
  try clear hg1_0
  try clear hg1_1
  try clear hg1_2
  try clear hz1_1
  try clear hz1_2
  go_wp2_with fail
  all_goals exact bodyPost_ret (v := .tuple #[.agg #[.int .i64 0, .int .i64 0], .int .i64 1]) (by first | (simp [results, Try.results27, go_sem]; done) | (simp (maxDischargeDepth := 7) [results, Try.results27, go_sem, *]; done)) rfl ⟨rfl, (by repeat (first | with_reducible exact Kept.refl _ | with_reducible assumption | with_reducible refine Kept.setCell ?_ (by first | (simp; done) | (simp; omega) | omega) _ | with_reducible refine Kept.alloc ?_ _ | with_reducible refine Kept.drewN ?_ _ | with_reducible refine Kept.drew ?_ | with_reducible refine Kept.trans ?_ (by with_reducible assumption) | with_reducible refine Kept.dr ?_ (by with_reducible assumption)))⟩
set_option maxHeartbeats 2000000 in
set_option maxRecDepth 100000 in
theorem ref_isub_argy (a b c d : Int) (h : d < c ∨ c < -4611686018427387904 ∨ 4611686018427387904 < d) (w : World) : Calls Try.prog 27 #[.agg #[.int .i64 a, .int .i64 b], .agg #[.int .i64 c, .int .i64 d]] w fun e w' => e = .returned (.tuple #[.agg #[.int .i64 0, .int .i64 0], .int .i64 1]) ∧ Kept w w' := by
  have HN := Lib.hid (ref_ineg_arg c d h)
  clear h
  go_enter Try.func27, Try.ntmps27
  go_wp2_with fail
  with_reducible refine (HN.out _).mono ?_
  rintro e w1 ⟨rfl, hk1⟩
  refine kuz (b := w.heap.size) hk1 (by first | (simp; done) | (simp; omega) | omega) ?_
  intro ha hb hz1_0 hn1_0 hm1_0
  have hf1_0_0 : w1.cell? ⟨w.heap.size, 0, none⟩ = some (.int .i64 a) := (ha _).trans (by first | with_reducible assumption | (simp (maxDischargeDepth := 7) [go_sem]; done) | (simp (maxDischargeDepth := 7) [go_sem, *]; done))
  have hf1_0_1 : w1.cell? ⟨w.heap.size, 1, none⟩ = some (.int .i64 b) := (ha _).trans (by first | with_reducible assumption | (simp (maxDischargeDepth := 7) [go_sem]; done) | (simp (maxDischargeDepth := 7) [go_sem, *]; done))
  try have hg1_0 : ∀ o, w1.frozen? ⟨w.heap.size, o, none⟩ = false := by intro o; rw [hb]; first | (simp (maxDischargeDepth := 7) [go_sem]; done) | (simp (maxDischargeDepth := 7) [go_sem, *]; done)
  clear ha hb
  refine kuz (b := w.heap.size + 1) hk1 (by first | (simp; done) | (simp; omega) | omega) ?_
  intro ha hb hz1_1 hn1_1 hm1_1
  have hf1_1_0 : w1.cell? ⟨w.heap.size + 1, 0, none⟩ = some (.int .i64 c) := (ha _).trans (by first | with_reducible assumption | (simp (maxDischargeDepth := 7) [go_sem]; done) | (simp (maxDischargeDepth := 7) [go_sem, *]; done))
  have hf1_1_1 : w1.cell? ⟨w.heap.size + 1, 1, none⟩ = some (.int .i64 d) := (ha _).trans (by first | with_reducible assumption | (simp (maxDischargeDepth := 7) [go_sem]; done) | (simp (maxDischargeDepth := 7) [go_sem, *]; done))
  try have hg1_1 : ∀ o, w1.frozen? ⟨w.heap.size + 1, o, none⟩ = false := by intro o; rw [hb]; first | (simp (maxDischargeDepth := 7) [go_sem]; done) | (simp (maxDischargeDepth := 7) [go_sem, *]; done)
  clear ha hb
  refine kuz (b := w.heap.size + 2) hk1 (by first | (simp; done) | (simp; omega) | omega) ?_
  intro ha hb hz1_2 hn1_2 hm1_2
  have hf1_2_0 : w1.cell? ⟨w.heap.size + 2, 0, none⟩ = some (.int .i64 0) := (ha _).trans (by first | with_reducible assumption | (simp (maxDischargeDepth := 7) [go_sem]; done) | (simp (maxDischargeDepth := 7) [go_sem, *]; done))
  have hf1_2_1 : w1.cell? ⟨w.heap.size + 2, 1, none⟩ = some (.int .i64 0) := (ha _).trans (by first | with_reducible assumption | (simp (maxDischargeDepth := 7) [go_sem]; done) | (simp (maxDischargeDepth := 7) [go_sem, *]; done))
  try have hg1_2 : ∀ o, w1.frozen? ⟨w.heap.size + 2, o, none⟩ = false := by intro o; rw [hb]; first | (simp (maxDischargeDepth := 7) [go_sem]; done) | (simp (maxDischargeDepth := 7) [go_sem, *]; done)
  clear ha hb
  go_wp2_with fail
  all_goals exact bodyPost_ret (v := .tuple #[.agg #[.int .i64 0, .int .i64 0], .int .i64 1]) (by first | (simp [results, Try.results27, go_sem]; done) | (simp (maxDischargeDepth := 7) [results, Try.results27, go_sem, *]; done)) rfl ⟨rfl, (by repeat (first | with_reducible exact Kept.refl _ | with_reducible assumption | with_reducible refine Kept.setCell ?_ (by first | (simp; done) | (simp; omega) | omega) _ | with_reducible refine Kept.alloc ?_ _ | with_reducible refine Kept.drewN ?_ _ | with_reducible refine Kept.drew ?_ | with_reducible refine Kept.trans ?_ (by with_reducible assumption) | with_reducible refine Kept.dr ?_ (by with_reducible assumption)))⟩
set_option maxHeartbeats 4000000 in
set_option maxRecDepth 100000 in
theorem ref_iwiden_ok (a b k : Int) (x1 : a ≤ b) (x2 : -4611686018427387904 ≤ a) (x3 : b ≤ 4611686018427387904) (k0 : 0 ≤ k) (k1 : k ≤ 9223372036854775807) (l1 : -4611686018427387904 ≤ a - k) (l2 : b + k ≤ 4611686018427387904) (w : World) : Calls Try.prog 37 #[.agg #[.int .i64 a, .int .i64 b], .int .i64 k] w fun e w' => e = .returned (.tuple #[.agg #[.int .i64 (a - k), .int .i64 (b + k)], .int .i64 0]) ∧ Kept w w' := by
  obtain ⟨s, hs⟩ : ∃ s, a - k = s := ⟨_, rfl⟩
  obtain ⟨t, ht⟩ : ∃ t, b + k = t := ⟨_, rfl⟩
  have HA1 := Lib.hid (rsub_ok a k s (by omega) (by omega) (by omega) (by omega) hs)
  have HA2 := Lib.hid (radd_ok b k t (by omega) (by omega) (by omega) (by omega) ht)
  have HO1 := Lib.hid (ref_of_w a (by omega) (by omega))
  have HO2 := Lib.hid (ref_of_w k (by omega) (by omega))
  have HO3 := Lib.hid (ref_of_w b (by omega) (by omega))
  have HV1 := Lib.hid (ref_valid_ok a b x1 x2 x3)
  have q0 : -4611686018427387904 ≤ s := by omega
  have q2 : t ≤ 4611686018427387904 := by omega
  have kst : s ≤ t := by omega
  have HL := Lib.hid (show min s t = s by omega)
  have HG := Lib.hid (show max s t = t by omega)
  have HE := Lib.hid (fun b c => ref_ex2_ok b c s t s t HL HG q0 kst q2)
  rw [hs, ht]
  clear hs ht HL HG
  clear x1 x2 x3 kst q0 q2 l1 l2
  go_enter Try.func37, Try.ntmps37
  go_wp2_with fail
  with_reducible refine (HV1.out _).mono ?_
  rintro e w1 ⟨rfl, hk1⟩
  refine kuz (b := w.heap.size) hk1 (by first | (simp; done) | (simp; omega) | omega) ?_
  intro ha hb hz1_0 hn1_0 hm1_0
  have hf1_0_0 : w1.cell? ⟨w.heap.size, 0, none⟩ = some (.int .i64 a) := (ha _).trans (by first | with_reducible assumption | (simp (maxDischargeDepth := 7) [go_sem]; done) | (simp (maxDischargeDepth := 7) [go_sem, *]; done))
  have hf1_0_1 : w1.cell? ⟨w.heap.size, 1, none⟩ = some (.int .i64 b) := (ha _).trans (by first | with_reducible assumption | (simp (maxDischargeDepth := 7) [go_sem]; done) | (simp (maxDischargeDepth := 7) [go_sem, *]; done))
  try have hg1_0 : ∀ o, w1.frozen? ⟨w.heap.size, o, none⟩ = false := by intro o; rw [hb]; first | (simp (maxDischargeDepth := 7) [go_sem]; done) | (simp (maxDischargeDepth := 7) [go_sem, *]; done)
  clear ha hb
  refine kuz (b := w.heap.size + 1) hk1 (by first | (simp; done) | (simp; omega) | omega) ?_
  intro ha hb hz1_1 hn1_1 hm1_1
  have hf1_1_0 : w1.cell? ⟨w.heap.size + 1, 0, none⟩ = some (.int .i64 0) := (ha _).trans (by first | with_reducible assumption | (simp (maxDischargeDepth := 7) [go_sem]; done) | (simp (maxDischargeDepth := 7) [go_sem, *]; done))
  have hf1_1_1 : w1.cell? ⟨w.heap.size + 1, 1, none⟩ = some (.int .i64 0) := (ha _).trans (by first | with_reducible assumption | (simp (maxDischargeDepth := 7) [go_sem]; done) | (simp (maxDischargeDepth := 7) [go_sem, *]; done))
  try have hg1_1 : ∀ o, w1.frozen? ⟨w.heap.size + 1, o, none⟩ = false := by intro o; rw [hb]; first | (simp (maxDischargeDepth := 7) [go_sem]; done) | (simp (maxDischargeDepth := 7) [go_sem, *]; done)
  clear ha hb
  go_wp2_with fail
  with_reducible refine (HO1.out _).mono ?_
  rintro e w2 ⟨rfl, hk2⟩
  refine kuz (b := w.heap.size) hk2 (by first | (simp; done) | (simp; omega) | omega) ?_
  intro ha hb hz2_0 hn2_0 hm2_0
  have hf2_0_0 : w2.cell? ⟨w.heap.size, 0, none⟩ = some (.int .i64 a) := (ha _).trans (by first | with_reducible assumption | (simp (maxDischargeDepth := 7) [go_sem]; done) | (simp (maxDischargeDepth := 7) [go_sem, *]; done))
  have hf2_0_1 : w2.cell? ⟨w.heap.size, 1, none⟩ = some (.int .i64 b) := (ha _).trans (by first | with_reducible assumption | (simp (maxDischargeDepth := 7) [go_sem]; done) | (simp (maxDischargeDepth := 7) [go_sem, *]; done))
  try have hg2_0 : ∀ o, w2.frozen? ⟨w.heap.size, o, none⟩ = false := by intro o; rw [hb]; first | (simp (maxDischargeDepth := 7) [go_sem]; done) | (simp (maxDischargeDepth := 7) [go_sem, *]; done)
  clear ha hb
  refine kuz (b := w.heap.size + 1) hk2 (by first | (simp; done) | (simp; omega) | omega) ?_
  intro ha hb hz2_1 hn2_1 hm2_1
  have hf2_1_0 : w2.cell? ⟨w.heap.size + 1, 0, none⟩ = some (.int .i64 0) := (ha _).trans (by first | with_reducible assumption | (simp (maxDischargeDepth := 7) [go_sem]; done) | (simp (maxDischargeDepth := 7) [go_sem, *]; done))
  have hf2_1_1 : w2.cell? ⟨w.heap.size + 1, 1, none⟩ = some (.int .i64 0) := (ha _).trans (by first | with_reducible assumption | (simp (maxDischargeDepth := 7) [go_sem]; done) | (simp (maxDischargeDepth := 7) [go_sem, *]; done))
  try have hg2_1 : ∀ o, w2.frozen? ⟨w.heap.size + 1, o, none⟩ = false := by intro o; rw [hb]; first | (simp (maxDischargeDepth := 7) [go_sem]; done) | (simp (maxDischargeDepth := 7) [go_sem, *]; done)
  clear ha hb
  try clear hf1_0_0
  try clear hf1_0_1
  try clear hf1_1_0
  try clear hf1_1_1
  try clear hg1_0
  try clear hg1_1
  try clear hz1_1
  go_wp2_with fail
  with_reducible refine (HO2.out _).mono ?_
  rintro e w3 ⟨rfl, hk3⟩
  refine kuz (b := w.heap.size) hk3 (by first | (simp; done) | (simp; omega) | omega) ?_
  intro ha hb hz3_0 hn3_0 hm3_0
  have hf3_0_0 : w3.cell? ⟨w.heap.size, 0, none⟩ = some (.int .i64 a) := (ha _).trans (by first | with_reducible assumption | (simp (maxDischargeDepth := 7) [go_sem]; done) | (simp (maxDischargeDepth := 7) [go_sem, *]; done))
  have hf3_0_1 : w3.cell? ⟨w.heap.size, 1, none⟩ = some (.int .i64 b) := (ha _).trans (by first | with_reducible assumption | (simp (maxDischargeDepth := 7) [go_sem]; done) | (simp (maxDischargeDepth := 7) [go_sem, *]; done))
  try have hg3_0 : ∀ o, w3.frozen? ⟨w.heap.size, o, none⟩ = false := by intro o; rw [hb]; first | (simp (maxDischargeDepth := 7) [go_sem]; done) | (simp (maxDischargeDepth := 7) [go_sem, *]; done)
  clear ha hb
  refine kuz (b := w.heap.size + 1) hk3 (by first | (simp; done) | (simp; omega) | omega) ?_
  intro ha hb hz3_1 hn3_1 hm3_1
  have hf3_1_0 : w3.cell? ⟨w.heap.size + 1, 0, none⟩ = some (.int .i64 0) := (ha _).trans (by first | with_reducible assumption | (simp (maxDischargeDepth := 7) [go_sem]; done) | (simp (maxDischargeDepth := 7) [go_sem, *]; done))
  have hf3_1_1 : w3.cell? ⟨w.heap.size + 1, 1, none⟩ = some (.int .i64 0) := (ha _).trans (by first | with_reducible assumption | (simp (maxDischargeDepth := 7) [go_sem]; done) | (simp (maxDischargeDepth := 7) [go_sem, *]; done))
  try have hg3_1 : ∀ o, w3.frozen? ⟨w.heap.size + 1, o, none⟩ = false := by intro o; rw [hb]; first | (simp (maxDischargeDepth := 7) [go_sem]; done) | (simp (maxDischargeDepth := 7) [go_sem, *]; done)
  clear ha hb
  try clear hf2_0_0
  try clear hf2_0_1
  try clear hf2_1_0
  try clear hf2_1_1
  try clear hg2_0
  try clear hg2_1
  try clear hz2_1
  go_wp2_with fail
  with_reducible refine (HA1.out _).mono ?_
  rintro e w4 ⟨rfl, hk4⟩
  refine kuz (b := w.heap.size) hk4 (by first | (simp; done) | (simp; omega) | omega) ?_
  intro ha hb hz4_0 hn4_0 hm4_0
  have hf4_0_0 : w4.cell? ⟨w.heap.size, 0, none⟩ = some (.int .i64 a) := (ha _).trans (by first | with_reducible assumption | (simp (maxDischargeDepth := 7) [go_sem]; done) | (simp (maxDischargeDepth := 7) [go_sem, *]; done))
  have hf4_0_1 : w4.cell? ⟨w.heap.size, 1, none⟩ = some (.int .i64 b) := (ha _).trans (by first | with_reducible assumption | (simp (maxDischargeDepth := 7) [go_sem]; done) | (simp (maxDischargeDepth := 7) [go_sem, *]; done))
  try have hg4_0 : ∀ o, w4.frozen? ⟨w.heap.size, o, none⟩ = false := by intro o; rw [hb]; first | (simp (maxDischargeDepth := 7) [go_sem]; done) | (simp (maxDischargeDepth := 7) [go_sem, *]; done)
  clear ha hb
  refine kuz (b := w.heap.size + 1) hk4 (by first | (simp; done) | (simp; omega) | omega) ?_
  intro ha hb hz4_1 hn4_1 hm4_1
  have hf4_1_0 : w4.cell? ⟨w.heap.size + 1, 0, none⟩ = some (.int .i64 0) := (ha _).trans (by first | with_reducible assumption | (simp (maxDischargeDepth := 7) [go_sem]; done) | (simp (maxDischargeDepth := 7) [go_sem, *]; done))
  have hf4_1_1 : w4.cell? ⟨w.heap.size + 1, 1, none⟩ = some (.int .i64 0) := (ha _).trans (by first | with_reducible assumption | (simp (maxDischargeDepth := 7) [go_sem]; done) | (simp (maxDischargeDepth := 7) [go_sem, *]; done))
  try have hg4_1 : ∀ o, w4.frozen? ⟨w.heap.size + 1, o, none⟩ = false := by intro o; rw [hb]; first | (simp (maxDischargeDepth := 7) [go_sem]; done) | (simp (maxDischargeDepth := 7) [go_sem, *]; done)
  clear ha hb
  try clear hf3_0_0
  try clear hf3_0_1
  try clear hf3_1_0
  try clear hf3_1_1
  try clear hg3_0
  try clear hg3_1
  try clear hz3_1
  go_wp2_with fail
  with_reducible refine (HO3.out _).mono ?_
  rintro e w5 ⟨rfl, hk5⟩
  refine kuz (b := w.heap.size) hk5 (by first | (simp; done) | (simp; omega) | omega) ?_
  intro ha hb hz5_0 hn5_0 hm5_0
  have hf5_0_0 : w5.cell? ⟨w.heap.size, 0, none⟩ = some (.int .i64 a) := (ha _).trans (by first | with_reducible assumption | (simp (maxDischargeDepth := 7) [go_sem]; done) | (simp (maxDischargeDepth := 7) [go_sem, *]; done))
  have hf5_0_1 : w5.cell? ⟨w.heap.size, 1, none⟩ = some (.int .i64 b) := (ha _).trans (by first | with_reducible assumption | (simp (maxDischargeDepth := 7) [go_sem]; done) | (simp (maxDischargeDepth := 7) [go_sem, *]; done))
  try have hg5_0 : ∀ o, w5.frozen? ⟨w.heap.size, o, none⟩ = false := by intro o; rw [hb]; first | (simp (maxDischargeDepth := 7) [go_sem]; done) | (simp (maxDischargeDepth := 7) [go_sem, *]; done)
  clear ha hb
  refine kuz (b := w.heap.size + 1) hk5 (by first | (simp; done) | (simp; omega) | omega) ?_
  intro ha hb hz5_1 hn5_1 hm5_1
  have hf5_1_0 : w5.cell? ⟨w.heap.size + 1, 0, none⟩ = some (.int .i64 0) := (ha _).trans (by first | with_reducible assumption | (simp (maxDischargeDepth := 7) [go_sem]; done) | (simp (maxDischargeDepth := 7) [go_sem, *]; done))
  have hf5_1_1 : w5.cell? ⟨w.heap.size + 1, 1, none⟩ = some (.int .i64 0) := (ha _).trans (by first | with_reducible assumption | (simp (maxDischargeDepth := 7) [go_sem]; done) | (simp (maxDischargeDepth := 7) [go_sem, *]; done))
  try have hg5_1 : ∀ o, w5.frozen? ⟨w.heap.size + 1, o, none⟩ = false := by intro o; rw [hb]; first | (simp (maxDischargeDepth := 7) [go_sem]; done) | (simp (maxDischargeDepth := 7) [go_sem, *]; done)
  clear ha hb
  refine kuz (b := w4.heap.size) hk5 (by first | (simp; done) | (simp; omega) | omega) ?_
  intro ha hb hz5_2 hn5_2 hm5_2
  have hf5_2_0 : w5.cell? ⟨w4.heap.size, 0, none⟩ = some (.int .i64 (wh (s))) := (ha _).trans (by first | with_reducible assumption | (simp (maxDischargeDepth := 7) [go_sem]; done) | (simp (maxDischargeDepth := 7) [go_sem, *]; done))
  have hf5_2_1 : w5.cell? ⟨w4.heap.size, 1, none⟩ = some (.int .u64 (wl (s))) := (ha _).trans (by first | with_reducible assumption | (simp (maxDischargeDepth := 7) [go_sem]; done) | (simp (maxDischargeDepth := 7) [go_sem, *]; done))
  try have hg5_2 : ∀ o, w5.frozen? ⟨w4.heap.size, o, none⟩ = false := by intro o; rw [hb]; first | (simp (maxDischargeDepth := 7) [go_sem]; done) | (simp (maxDischargeDepth := 7) [go_sem, *]; done)
  clear ha hb
  try clear hf4_0_0
  try clear hf4_0_1
  try clear hf4_1_0
  try clear hf4_1_1
  try clear hg4_0
  try clear hg4_1
  try clear hz4_1
  go_wp2_with fail
  with_reducible refine (HO2.out _).mono ?_
  rintro e w6 ⟨rfl, hk6⟩
  refine kuz (b := w.heap.size) hk6 (by first | (simp; done) | (simp; omega) | omega) ?_
  intro ha hb hz6_0 hn6_0 hm6_0
  have hf6_0_0 : w6.cell? ⟨w.heap.size, 0, none⟩ = some (.int .i64 a) := (ha _).trans (by first | with_reducible assumption | (simp (maxDischargeDepth := 7) [go_sem]; done) | (simp (maxDischargeDepth := 7) [go_sem, *]; done))
  have hf6_0_1 : w6.cell? ⟨w.heap.size, 1, none⟩ = some (.int .i64 b) := (ha _).trans (by first | with_reducible assumption | (simp (maxDischargeDepth := 7) [go_sem]; done) | (simp (maxDischargeDepth := 7) [go_sem, *]; done))
  try have hg6_0 : ∀ o, w6.frozen? ⟨w.heap.size, o, none⟩ = false := by intro o; rw [hb]; first | (simp (maxDischargeDepth := 7) [go_sem]; done) | (simp (maxDischargeDepth := 7) [go_sem, *]; done)
  clear ha hb
  refine kuz (b := w.heap.size + 1) hk6 (by first | (simp; done) | (simp; omega) | omega) ?_
  intro ha hb hz6_1 hn6_1 hm6_1
  have hf6_1_0 : w6.cell? ⟨w.heap.size + 1, 0, none⟩ = some (.int .i64 0) := (ha _).trans (by first | with_reducible assumption | (simp (maxDischargeDepth := 7) [go_sem]; done) | (simp (maxDischargeDepth := 7) [go_sem, *]; done))
  have hf6_1_1 : w6.cell? ⟨w.heap.size + 1, 1, none⟩ = some (.int .i64 0) := (ha _).trans (by first | with_reducible assumption | (simp (maxDischargeDepth := 7) [go_sem]; done) | (simp (maxDischargeDepth := 7) [go_sem, *]; done))
  try have hg6_1 : ∀ o, w6.frozen? ⟨w.heap.size + 1, o, none⟩ = false := by intro o; rw [hb]; first | (simp (maxDischargeDepth := 7) [go_sem]; done) | (simp (maxDischargeDepth := 7) [go_sem, *]; done)
  clear ha hb
  refine kuz (b := w4.heap.size) hk6 (by first | (simp; done) | (simp; omega) | omega) ?_
  intro ha hb hz6_2 hn6_2 hm6_2
  have hf6_2_0 : w6.cell? ⟨w4.heap.size, 0, none⟩ = some (.int .i64 (wh (s))) := (ha _).trans (by first | with_reducible assumption | (simp (maxDischargeDepth := 7) [go_sem]; done) | (simp (maxDischargeDepth := 7) [go_sem, *]; done))
  have hf6_2_1 : w6.cell? ⟨w4.heap.size, 1, none⟩ = some (.int .u64 (wl (s))) := (ha _).trans (by first | with_reducible assumption | (simp (maxDischargeDepth := 7) [go_sem]; done) | (simp (maxDischargeDepth := 7) [go_sem, *]; done))
  try have hg6_2 : ∀ o, w6.frozen? ⟨w4.heap.size, o, none⟩ = false := by intro o; rw [hb]; first | (simp (maxDischargeDepth := 7) [go_sem]; done) | (simp (maxDischargeDepth := 7) [go_sem, *]; done)
  clear ha hb
  try clear hf5_0_0
  try clear hf5_0_1
  try clear hf5_1_0
  try clear hf5_1_1
  try clear hf5_2_0
  try clear hf5_2_1
  try clear hg5_0
  try clear hg5_1
  try clear hg5_2
  try clear hz5_1
  try clear hz5_2
  go_wp2_with fail
  with_reducible refine (HA2.out _).mono ?_
  rintro e w7 ⟨rfl, hk7⟩
  refine kuz (b := w.heap.size) hk7 (by first | (simp; done) | (simp; omega) | omega) ?_
  intro ha hb hz7_0 hn7_0 hm7_0
  have hf7_0_0 : w7.cell? ⟨w.heap.size, 0, none⟩ = some (.int .i64 a) := (ha _).trans (by first | with_reducible assumption | (simp (maxDischargeDepth := 7) [go_sem]; done) | (simp (maxDischargeDepth := 7) [go_sem, *]; done))
  have hf7_0_1 : w7.cell? ⟨w.heap.size, 1, none⟩ = some (.int .i64 b) := (ha _).trans (by first | with_reducible assumption | (simp (maxDischargeDepth := 7) [go_sem]; done) | (simp (maxDischargeDepth := 7) [go_sem, *]; done))
  try have hg7_0 : ∀ o, w7.frozen? ⟨w.heap.size, o, none⟩ = false := by intro o; rw [hb]; first | (simp (maxDischargeDepth := 7) [go_sem]; done) | (simp (maxDischargeDepth := 7) [go_sem, *]; done)
  clear ha hb
  refine kuz (b := w.heap.size + 1) hk7 (by first | (simp; done) | (simp; omega) | omega) ?_
  intro ha hb hz7_1 hn7_1 hm7_1
  have hf7_1_0 : w7.cell? ⟨w.heap.size + 1, 0, none⟩ = some (.int .i64 0) := (ha _).trans (by first | with_reducible assumption | (simp (maxDischargeDepth := 7) [go_sem]; done) | (simp (maxDischargeDepth := 7) [go_sem, *]; done))
  have hf7_1_1 : w7.cell? ⟨w.heap.size + 1, 1, none⟩ = some (.int .i64 0) := (ha _).trans (by first | with_reducible assumption | (simp (maxDischargeDepth := 7) [go_sem]; done) | (simp (maxDischargeDepth := 7) [go_sem, *]; done))
  try have hg7_1 : ∀ o, w7.frozen? ⟨w.heap.size + 1, o, none⟩ = false := by intro o; rw [hb]; first | (simp (maxDischargeDepth := 7) [go_sem]; done) | (simp (maxDischargeDepth := 7) [go_sem, *]; done)
  clear ha hb
  refine kuz (b := w4.heap.size) hk7 (by first | (simp; done) | (simp; omega) | omega) ?_
  intro ha hb hz7_2 hn7_2 hm7_2
  have hf7_2_0 : w7.cell? ⟨w4.heap.size, 0, none⟩ = some (.int .i64 (wh (s))) := (ha _).trans (by first | with_reducible assumption | (simp (maxDischargeDepth := 7) [go_sem]; done) | (simp (maxDischargeDepth := 7) [go_sem, *]; done))
  have hf7_2_1 : w7.cell? ⟨w4.heap.size, 1, none⟩ = some (.int .u64 (wl (s))) := (ha _).trans (by first | with_reducible assumption | (simp (maxDischargeDepth := 7) [go_sem]; done) | (simp (maxDischargeDepth := 7) [go_sem, *]; done))
  try have hg7_2 : ∀ o, w7.frozen? ⟨w4.heap.size, o, none⟩ = false := by intro o; rw [hb]; first | (simp (maxDischargeDepth := 7) [go_sem]; done) | (simp (maxDischargeDepth := 7) [go_sem, *]; done)
  clear ha hb
  try clear hf6_0_0
  try clear hf6_0_1
  try clear hf6_1_0
  try clear hf6_1_1
  try clear hf6_2_0
  try clear hf6_2_1
  try clear hg6_0
  try clear hg6_1
  try clear hg6_2
  try clear hz6_1
  try clear hz6_2
  go_wp2_with fail
  refine (HE.out _ _ _ (sw_lit2E _ s t _ _ (by simp))).mono ?_
  rintro e w8 ⟨rfl, hk8⟩
  refine kuz (b := w.heap.size) hk8 (by first | (simp; done) | (simp; omega) | omega) ?_
  intro ha hb hz8_0 hn8_0 hm8_0
  have hf8_0_0 : w8.cell? ⟨w.heap.size, 0, none⟩ = some (.int .i64 a) := (ha _).trans (by first | with_reducible assumption | (simp (maxDischargeDepth := 7) [go_sem]; done) | (simp (maxDischargeDepth := 7) [go_sem, *]; done))
  have hf8_0_1 : w8.cell? ⟨w.heap.size, 1, none⟩ = some (.int .i64 b) := (ha _).trans (by first | with_reducible assumption | (simp (maxDischargeDepth := 7) [go_sem]; done) | (simp (maxDischargeDepth := 7) [go_sem, *]; done))
  try have hg8_0 : ∀ o, w8.frozen? ⟨w.heap.size, o, none⟩ = false := by intro o; rw [hb]; first | (simp (maxDischargeDepth := 7) [go_sem]; done) | (simp (maxDischargeDepth := 7) [go_sem, *]; done)
  clear ha hb
  refine kuz (b := w.heap.size + 1) hk8 (by first | (simp; done) | (simp; omega) | omega) ?_
  intro ha hb hz8_1 hn8_1 hm8_1
  have hf8_1_0 : w8.cell? ⟨w.heap.size + 1, 0, none⟩ = some (.int .i64 0) := (ha _).trans (by first | with_reducible assumption | (simp (maxDischargeDepth := 7) [go_sem]; done) | (simp (maxDischargeDepth := 7) [go_sem, *]; done))
  have hf8_1_1 : w8.cell? ⟨w.heap.size + 1, 1, none⟩ = some (.int .i64 0) := (ha _).trans (by first | with_reducible assumption | (simp (maxDischargeDepth := 7) [go_sem]; done) | (simp (maxDischargeDepth := 7) [go_sem, *]; done))
  try have hg8_1 : ∀ o, w8.frozen? ⟨w.heap.size + 1, o, none⟩ = false := by intro o; rw [hb]; first | (simp (maxDischargeDepth := 7) [go_sem]; done) | (simp (maxDischargeDepth := 7) [go_sem, *]; done)
  clear ha hb
  refine kuz (b := w4.heap.size) hk8 (by first | (simp; done) | (simp; omega) | omega) ?_
  intro ha hb hz8_2 hn8_2 hm8_2
  have hf8_2_0 : w8.cell? ⟨w4.heap.size, 0, none⟩ = some (.int .i64 (wh (s))) := (ha _).trans (by first | with_reducible assumption | (simp (maxDischargeDepth := 7) [go_sem]; done) | (simp (maxDischargeDepth := 7) [go_sem, *]; done))
  have hf8_2_1 : w8.cell? ⟨w4.heap.size, 1, none⟩ = some (.int .u64 (wl (s))) := (ha _).trans (by first | with_reducible assumption | (simp (maxDischargeDepth := 7) [go_sem]; done) | (simp (maxDischargeDepth := 7) [go_sem, *]; done))
  try have hg8_2 : ∀ o, w8.frozen? ⟨w4.heap.size, o, none⟩ = false := by intro o; rw [hb]; first | (simp (maxDischargeDepth := 7) [go_sem]; done) | (simp (maxDischargeDepth := 7) [go_sem, *]; done)
  clear ha hb
  refine kuz (b := w7.heap.size) hk8 (by first | (simp; done) | (simp; omega) | omega) ?_
  intro ha hb hz8_3 hn8_3 hm8_3
  have hf8_3_0 : w8.cell? ⟨w7.heap.size, 0, none⟩ = some (.int .i64 (wh (t))) := (ha _).trans (by first | with_reducible assumption | (simp (maxDischargeDepth := 7) [go_sem]; done) | (simp (maxDischargeDepth := 7) [go_sem, *]; done))
  have hf8_3_1 : w8.cell? ⟨w7.heap.size, 1, none⟩ = some (.int .u64 (wl (t))) := (ha _).trans (by first | with_reducible assumption | (simp (maxDischargeDepth := 7) [go_sem]; done) | (simp (maxDischargeDepth := 7) [go_sem, *]; done))
  try have hg8_3 : ∀ o, w8.frozen? ⟨w7.heap.size, o, none⟩ = false := by intro o; rw [hb]; first | (simp (maxDischargeDepth := 7) [go_sem]; done) | (simp (maxDischargeDepth := 7) [go_sem, *]; done)
  clear ha hb
  try clear hf7_0_0
  try clear hf7_0_1
  try clear hf7_1_0
  try clear hf7_1_1
  try clear hf7_2_0
  try clear hf7_2_1
  try clear hg7_0
  try clear hg7_1
  try clear hg7_2
  try clear hz7_1
  try clear hz7_2
  go_wp2_with fail
  all_goals exact bodyPost_ret (v := .tuple #[.agg #[.int .i64 s, .int .i64 t], .int .i64 0]) (by first | (simp [results, Try.results37, go_sem]; done) | (simp (maxDischargeDepth := 7) [results, Try.results37, go_sem, *]; done)) rfl ⟨rfl, (by repeat (first | with_reducible exact Kept.refl _ | with_reducible assumption | with_reducible refine Kept.setCell ?_ (by first | (simp; done) | (simp; omega) | omega) _ | with_reducible refine Kept.alloc ?_ _ | with_reducible refine Kept.drewN ?_ _ | with_reducible refine Kept.drew ?_ | with_reducible refine Kept.trans ?_ (by with_reducible assumption) | with_reducible refine Kept.dr ?_ (by with_reducible assumption)))⟩
set_option maxHeartbeats 4000000 in
set_option maxRecDepth 100000 in
theorem ref_iwiden_bad (a b k : Int) (x1 : a ≤ b) (x2 : -4611686018427387904 ≤ a) (x3 : b ≤ 4611686018427387904) (k0 : 0 ≤ k) (k1 : k ≤ 9223372036854775807) (kb : a - k < -4611686018427387904 ∨ 4611686018427387904 < b + k) (w : World) : Calls Try.prog 37 #[.agg #[.int .i64 a, .int .i64 b], .int .i64 k] w fun e w' => e = .returned (.tuple #[.agg #[.int .i64 0, .int .i64 0], .int .i64 2]) ∧ Kept w w' := by
  obtain ⟨s, hs⟩ : ∃ s, a - k = s := ⟨_, rfl⟩
  obtain ⟨t, ht⟩ : ∃ t, b + k = t := ⟨_, rfl⟩
  have HA1 := Lib.hid (rsub_ok a k s (by omega) (by omega) (by omega) (by omega) hs)
  have HA2 := Lib.hid (radd_ok b k t (by omega) (by omega) (by omega) (by omega) ht)
  have HO1 := Lib.hid (ref_of_w a (by omega) (by omega))
  have HO2 := Lib.hid (ref_of_w k (by omega) (by omega))
  have HO3 := Lib.hid (ref_of_w b (by omega) (by omega))
  have HV1 := Lib.hid (ref_valid_ok a b x1 x2 x3)
  have kb' : s < -4611686018427387904 ∨ 4611686018427387904 < t ∨ t < s := by omega
  have kst : s ≤ t := by omega
  have HL := Lib.hid (show min s t = s by omega)
  have HG := Lib.hid (show max s t = t by omega)
  have HE := Lib.hid (fun b c => ref_ex2_bad b c s t s t HL HG kb')
  clear hs ht HL HG
  clear x1 x2 x3 kst kb kb'
  go_enter Try.func37, Try.ntmps37
  go_wp2_with fail
  with_reducible refine (HV1.out _).mono ?_
  rintro e w1 ⟨rfl, hk1⟩
  refine kuz (b := w.heap.size) hk1 (by first | (simp; done) | (simp; omega) | omega) ?_
  intro ha hb hz1_0 hn1_0 hm1_0
  have hf1_0_0 : w1.cell? ⟨w.heap.size, 0, none⟩ = some (.int .i64 a) := (ha _).trans (by first | with_reducible assumption | (simp (maxDischargeDepth := 7) [go_sem]; done) | (simp (maxDischargeDepth := 7) [go_sem, *]; done))
  have hf1_0_1 : w1.cell? ⟨w.heap.size, 1, none⟩ = some (.int .i64 b) := (ha _).trans (by first | with_reducible assumption | (simp (maxDischargeDepth := 7) [go_sem]; done) | (simp (maxDischargeDepth := 7) [go_sem, *]; done))
  try have hg1_0 : ∀ o, w1.frozen? ⟨w.heap.size, o, none⟩ = false := by intro o; rw [hb]; first | (simp (maxDischargeDepth := 7) [go_sem]; done) | (simp (maxDischargeDepth := 7) [go_sem, *]; done)
  clear ha hb
  refine kuz (b := w.heap.size + 1) hk1 (by first | (simp; done) | (simp; omega) | omega) ?_
  intro ha hb hz1_1 hn1_1 hm1_1
  have hf1_1_0 : w1.cell? ⟨w.heap.size + 1, 0, none⟩ = some (.int .i64 0) := (ha _).trans (by first | with_reducible assumption | (simp (maxDischargeDepth := 7) [go_sem]; done) | (simp (maxDischargeDepth := 7) [go_sem, *]; done))
  have hf1_1_1 : w1.cell? ⟨w.heap.size + 1, 1, none⟩ = some (.int .i64 0) := (ha _).trans (by first | with_reducible assumption | (simp (maxDischargeDepth := 7) [go_sem]; done) | (simp (maxDischargeDepth := 7) [go_sem, *]; done))
  try have hg1_1 : ∀ o, w1.frozen? ⟨w.heap.size + 1, o, none⟩ = false := by intro o; rw [hb]; first | (simp (maxDischargeDepth := 7) [go_sem]; done) | (simp (maxDischargeDepth := 7) [go_sem, *]; done)
  clear ha hb
  go_wp2_with fail
  with_reducible refine (HO1.out _).mono ?_
  rintro e w2 ⟨rfl, hk2⟩
  refine kuz (b := w.heap.size) hk2 (by first | (simp; done) | (simp; omega) | omega) ?_
  intro ha hb hz2_0 hn2_0 hm2_0
  have hf2_0_0 : w2.cell? ⟨w.heap.size, 0, none⟩ = some (.int .i64 a) := (ha _).trans (by first | with_reducible assumption | (simp (maxDischargeDepth := 7) [go_sem]; done) | (simp (maxDischargeDepth := 7) [go_sem, *]; done))
  have hf2_0_1 : w2.cell? ⟨w.heap.size, 1, none⟩ = some (.int .i64 b) := (ha _).trans (by first | with_reducible assumption | (simp (maxDischargeDepth := 7) [go_sem]; done) | (simp (maxDischargeDepth := 7) [go_sem, *]; done))
  try have hg2_0 : ∀ o, w2.frozen? ⟨w.heap.size, o, none⟩ = false := by intro o; rw [hb]; first | (simp (maxDischargeDepth := 7) [go_sem]; done) | (simp (maxDischargeDepth := 7) [go_sem, *]; done)
  clear ha hb
  refine kuz (b := w.heap.size + 1) hk2 (by first | (simp; done) | (simp; omega) | omega) ?_
  intro ha hb hz2_1 hn2_1 hm2_1
  have hf2_1_0 : w2.cell? ⟨w.heap.size + 1, 0, none⟩ = some (.int .i64 0) := (ha _).trans (by first | with_reducible assumption | (simp (maxDischargeDepth := 7) [go_sem]; done) | (simp (maxDischargeDepth := 7) [go_sem, *]; done))
  have hf2_1_1 : w2.cell? ⟨w.heap.size + 1, 1, none⟩ = some (.int .i64 0) := (ha _).trans (by first | with_reducible assumption | (simp (maxDischargeDepth := 7) [go_sem]; done) | (simp (maxDischargeDepth := 7) [go_sem, *]; done))
  try have hg2_1 : ∀ o, w2.frozen? ⟨w.heap.size + 1, o, none⟩ = false := by intro o; rw [hb]; first | (simp (maxDischargeDepth := 7) [go_sem]; done) | (simp (maxDischargeDepth := 7) [go_sem, *]; done)
  clear ha hb
  try clear hf1_0_0
  try clear hf1_0_1
  try clear hf1_1_0
  try clear hf1_1_1
  try clear hg1_0
  try clear hg1_1
  try clear hz1_1
  go_wp2_with fail
  with_reducible refine (HO2.out _).mono ?_
  rintro e w3 ⟨rfl, hk3⟩
  refine kuz (b := w.heap.size) hk3 (by first | (simp; done) | (simp; omega) | omega) ?_
  intro ha hb hz3_0 hn3_0 hm3_0
  have hf3_0_0 : w3.cell? ⟨w.heap.size, 0, none⟩ = some (.int .i64 a) := (ha _).trans (by first | with_reducible assumption | (simp (maxDischargeDepth := 7) [go_sem]; done) | (simp (maxDischargeDepth := 7) [go_sem, *]; done))
  have hf3_0_1 : w3.cell? ⟨w.heap.size, 1, none⟩ = some (.int .i64 b) := (ha _).trans (by first | with_reducible assumption | (simp (maxDischargeDepth := 7) [go_sem]; done) | (simp (maxDischargeDepth := 7) [go_sem, *]; done))
  try have hg3_0 : ∀ o, w3.frozen? ⟨w.heap.size, o, none⟩ = false := by intro o; rw [hb]; first | (simp (maxDischargeDepth := 7) [go_sem]; done) | (simp (maxDischargeDepth := 7) [go_sem, *]; done)
  clear ha hb
  refine kuz (b := w.heap.size + 1) hk3 (by first | (simp; done) | (simp; omega) | omega) ?_
  intro ha hb hz3_1 hn3_1 hm3_1
  have hf3_1_0 : w3.cell? ⟨w.heap.size + 1, 0, none⟩ = some (.int .i64 0) := (ha _).trans (by first | with_reducible assumption | (simp (maxDischargeDepth := 7) [go_sem]; done) | (simp (maxDischargeDepth := 7) [go_sem, *]; done))
  have hf3_1_1 : w3.cell? ⟨w.heap.size + 1, 1, none⟩ = some (.int .i64 0) := (ha _).trans (by first | with_reducible assumption | (simp (maxDischargeDepth := 7) [go_sem]; done) | (simp (maxDischargeDepth := 7) [go_sem, *]; done))
  try have hg3_1 : ∀ o, w3.frozen? ⟨w.heap.size + 1, o, none⟩ = false := by intro o; rw [hb]; first | (simp (maxDischargeDepth := 7) [go_sem]; done) | (simp (maxDischargeDepth := 7) [go_sem, *]; done)
  clear ha hb
  try clear hf2_0_0
  try clear hf2_0_1
  try clear hf2_1_0
  try clear hf2_1_1
  try clear hg2_0
  try clear hg2_1
  try clear hz2_1
  go_wp2_with fail
  with_reducible refine (HA1.out _).mono ?_
  rintro e w4 ⟨rfl, hk4⟩
  refine kuz (b := w.heap.size) hk4 (by first | (simp; done) | (simp; omega) | omega) ?_
  intro ha hb hz4_0 hn4_0 hm4_0
  have hf4_0_0 : w4.cell? ⟨w.heap.size, 0, none⟩ = some (.int .i64 a) := (ha _).trans (by first | with_reducible assumption | (simp (maxDischargeDepth := 7) [go_sem]; done) | (simp (maxDischargeDepth := 7) [go_sem, *]; done))
  have hf4_0_1 : w4.cell? ⟨w.heap.size, 1, none⟩ = some (.int .i64 b) := (ha _).trans (by first | with_reducible assumption | (simp (maxDischargeDepth := 7) [go_sem]; done) | (simp (maxDischargeDepth := 7) [go_sem, *]; done))
  try have hg4_0 : ∀ o, w4.frozen? ⟨w.heap.size, o, none⟩ = false := by intro o; rw [hb]; first | (simp (maxDischargeDepth := 7) [go_sem]; done) | (simp (maxDischargeDepth := 7) [go_sem, *]; done)
  clear ha hb
  refine kuz (b := w.heap.size + 1) hk4 (by first | (simp; done) | (simp; omega) | omega) ?_
  intro ha hb hz4_1 hn4_1 hm4_1
  have hf4_1_0 : w4.cell? ⟨w.heap.size + 1, 0, none⟩ = some (.int .i64 0) := (ha _).trans (by first | with_reducible assumption | (simp (maxDischargeDepth := 7) [go_sem]; done) | (simp (maxDischargeDepth := 7) [go_sem, *]; done))
  have hf4_1_1 : w4.cell? ⟨w.heap.size + 1, 1, none⟩ = some (.int .i64 0) := (ha _).trans (by first | with_reducible assumption | (simp (maxDischargeDepth := 7) [go_sem]; done) | (simp (maxDischargeDepth := 7) [go_sem, *]; done))
  try have hg4_1 : ∀ o, w4.frozen? ⟨w.heap.size + 1, o, none⟩ = false := by intro o; rw [hb]; first | (simp (maxDischargeDepth := 7) [go_sem]; done) | (simp (maxDischargeDepth := 7) [go_sem, *]; done)
  clear ha hb
  try clear hf3_0_0
  try clear hf3_0_1
  try clear hf3_1_0
  try clear hf3_1_1
  try clear hg3_0
  try clear hg3_1
  try clear hz3_1
  go_wp2_with fail
  with_reducible refine (HO3.out _).mono ?_
  rintro e w5 ⟨rfl, hk5⟩
  refine kuz (b := w.heap.size) hk5 (by first | (simp; done) | (simp; omega) | omega) ?_
  intro ha hb hz5_0 hn5_0 hm5_0
  have hf5_0_0 : w5.cell? ⟨w.heap.size, 0, none⟩ = some (.int .i64 a) := (ha _).trans (by first | with_reducible assumption | (simp (maxDischargeDepth := 7) [go_sem]; done) | (simp (maxDischargeDepth := 7) [go_sem, *]; done))
  have hf5_0_1 : w5.cell? ⟨w.heap.size, 1, none⟩ = some (.int .i64 b) := (ha _).trans (by first | with_reducible assumption | (simp (maxDischargeDepth := 7) [go_sem]; done) | (simp (maxDischargeDepth := 7) [go_sem, *]; done))
  try have hg5_0 : ∀ o, w5.frozen? ⟨w.heap.size, o, none⟩ = false := by intro o; rw [hb]; first | (simp (maxDischargeDepth := 7) [go_sem]; done) | (simp (maxDischargeDepth := 7) [go_sem, *]; done)
  clear ha hb
  refine kuz (b := w.heap.size + 1) hk5 (by first | (simp; done) | (simp; omega) | omega) ?_
  intro ha hb hz5_1 hn5_1 hm5_1
  have hf5_1_0 : w5.cell? ⟨w.heap.size + 1, 0, none⟩ = some (.int .i64 0) := (ha _).trans (by first | with_reducible assumption | (simp (maxDischargeDepth := 7) [go_sem]; done) | (simp (maxDischargeDepth := 7) [go_sem, *]; done))
  have hf5_1_1 : w5.cell? ⟨w.heap.size + 1, 1, none⟩ = some (.int .i64 0) := (ha _).trans (by first | with_reducible assumption | (simp (maxDischargeDepth := 7) [go_sem]; done) | (simp (maxDischargeDepth := 7) [go_sem, *]; done))
  try have hg5_1 : ∀ o, w5.frozen? ⟨w.heap.size + 1, o, none⟩ = false := by intro o; rw [hb]; first | (simp (maxDischargeDepth := 7) [go_sem]; done) | (simp (maxDischargeDepth := 7) [go_sem, *]; done)
  clear ha hb
  refine kuz (b := w4.heap.size) hk5 (by first | (simp; done) | (simp; omega) | omega) ?_
  intro ha hb hz5_2 hn5_2 hm5_2
  have hf5_2_0 : w5.cell? ⟨w4.heap.size, 0, none⟩ = some (.int .i64 (wh (s))) := (ha _).trans (by first | with_reducible assumption | (simp (maxDischargeDepth := 7) [go_sem]; done) | (simp (maxDischargeDepth := 7) [go_sem, *]; done))
  have hf5_2_1 : w5.cell? ⟨w4.heap.size, 1, none⟩ = some (.int .u64 (wl (s))) := (ha _).trans (by first | with_reducible assumption | (simp (maxDischargeDepth := 7) [go_sem]; done) | (simp (maxDischargeDepth := 7) [go_sem, *]; done))
  try have hg5_2 : ∀ o, w5.frozen? ⟨w4.heap.size, o, none⟩ = false := by intro o; rw [hb]; first | (simp (maxDischargeDepth := 7) [go_sem]; done) | (simp (maxDischargeDepth := 7) [go_sem, *]; done)
  clear ha hb
  try clear hf4_0_0
  try clear hf4_0_1
  try clear hf4_1_0
  try clear hf4_1_1
  try clear hg4_0
  try clear hg4_1
  try clear hz4_1
  go_wp2_with fail
  with_reducible refine (HO2.out _).mono ?_
  rintro e w6 ⟨rfl, hk6⟩
  refine kuz (b := w.heap.size) hk6 (by first | (simp; done) | (simp; omega) | omega) ?_
  intro ha hb hz6_0 hn6_0 hm6_0
  have hf6_0_0 : w6.cell? ⟨w.heap.size, 0, none⟩ = some (.int .i64 a) := (ha _).trans (by first | with_reducible assumption | (simp (maxDischargeDepth := 7) [go_sem]; done) | (simp (maxDischargeDepth := 7) [go_sem, *]; done))
  have hf6_0_1 : w6.cell? ⟨w.heap.size, 1, none⟩ = some (.int .i64 b) := (ha _).trans (by first | with_reducible assumption | (simp (maxDischargeDepth := 7) [go_sem]; done) | (simp (maxDischargeDepth := 7) [go_sem, *]; done))
  try have hg6_0 : ∀ o, w6.frozen? ⟨w.heap.size, o, none⟩ = false := by intro o; rw [hb]; first | (simp (maxDischargeDepth := 7) [go_sem]; done) | (simp (maxDischargeDepth := 7) [go_sem, *]; done)
  clear ha hb
  refine kuz (b := w.heap.size + 1) hk6 (by first | (simp; done) | (simp; omega) | omega) ?_
  intro ha hb hz6_1 hn6_1 hm6_1
  have hf6_1_0 : w6.cell? ⟨w.heap.size + 1, 0, none⟩ = some (.int .i64 0) := (ha _).trans (by first | with_reducible assumption | (simp (maxDischargeDepth := 7) [go_sem]; done) | (simp (maxDischargeDepth := 7) [go_sem, *]; done))
  have hf6_1_1 : w6.cell? ⟨w.heap.size + 1, 1, none⟩ = some (.int .i64 0) := (ha _).trans (by first | with_reducible assumption | (simp (maxDischargeDepth := 7) [go_sem]; done) | (simp (maxDischargeDepth := 7) [go_sem, *]; done))
  try have hg6_1 : ∀ o, w6.frozen? ⟨w.heap.size + 1, o, none⟩ = false := by intro o; rw [hb]; first | (simp (maxDischargeDepth := 7) [go_sem]; done) | (simp (maxDischargeDepth := 7) [go_sem, *]; done)
  clear ha hb
  refine kuz (b := w4.heap.size) hk6 (by first | (simp; done) | (simp; omega) | omega) ?_
  intro ha hb hz6_2 hn6_2 hm6_2
  have hf6_2_0 : w6.cell? ⟨w4.heap.size, 0, none⟩ = some (.int .i64 (wh (s))) := (ha _).trans (by first | with_reducible assumption | (simp (maxDischargeDepth := 7) [go_sem]; done) | (simp (maxDischargeDepth := 7) [go_sem, *]; done))
  have hf6_2_1 : w6.cell? ⟨w4.heap.size, 1, none⟩ = some (.int .u64 (wl (s))) := (ha _).trans (by first | with_reducible assumption | (simp (maxDischargeDepth := 7) [go_sem]; done) | (simp (maxDischargeDepth := 7) [go_sem, *]; done))
  try have hg6_2 : ∀ o, w6.frozen? ⟨w4.heap.size, o, none⟩ = false := by intro o; rw [hb]; first | (simp (maxDischargeDepth := 7) [go_sem]; done) | (simp (maxDischargeDepth := 7) [go_sem, *]; done)
  clear ha hb
  try clear hf5_0_0
  try clear hf5_0_1
  try clear hf5_1_0
  try clear hf5_1_1
  try clear hf5_2_0
  try clear hf5_2_1
  try clear hg5_0
  try clear hg5_1
  try clear hg5_2
  try clear hz5_1
  try clear hz5_2
  go_wp2_with fail
  with_reducible refine (HA2.out _).mono ?_
  rintro e w7 ⟨rfl, hk7⟩
  refine kuz (b := w.heap.size) hk7 (by first | (simp; done) | (simp; omega) | omega) ?_
  intro ha hb hz7_0 hn7_0 hm7_0
  have hf7_0_0 : w7.cell? ⟨w.heap.size, 0, none⟩ = some (.int .i64 a) := (ha _).trans (by first | with_reducible assumption | (simp (maxDischargeDepth := 7) [go_sem]; done) | (simp (maxDischargeDepth := 7) [go_sem, *]; done))
  have hf7_0_1 : w7.cell? ⟨w.heap.size, 1, none⟩ = some (.int .i64 b) := (ha _).trans (by first | with_reducible assumption | (simp (maxDischargeDepth := 7) [go_sem]; done) | (simp (maxDischargeDepth := 7) [go_sem, *]; done))
  try have hg7_0 : ∀ o, w7.frozen? ⟨w.heap.size, o, none⟩ = false := by intro o; rw [hb]; first | (simp (maxDischargeDepth := 7) [go_sem]; done) | (simp (maxDischargeDepth := 7) [go_sem, *]; done)
  clear ha hb
  refine kuz (b := w.heap.size + 1) hk7 (by first | (simp; done) | (simp; omega) | omega) ?_
  intro ha hb hz7_1 hn7_1 hm7_1
  have hf7_1_0 : w7.cell? ⟨w.heap.size + 1, 0, none⟩ = some (.int .i64 0) := (ha _).trans (by first | with_reducible assumption | (simp (maxDischargeDepth := 7) [go_sem]; done) | (simp (maxDischargeDepth := 7) [go_sem, *]; done))
  have hf7_1_1 : w7.cell? ⟨w.heap.size + 1, 1, none⟩ = some (.int .i64 0) := (ha _).trans (by first | with_reducible assumption | (simp (maxDischargeDepth := 7) [go_sem]; done) | (simp (maxDischargeDepth := 7) [go_sem, *]; done))
  try have hg7_1 : ∀ o, w7.frozen? ⟨w.heap.size + 1, o, none⟩ = false := by intro o; rw [hb]; first | (simp (maxDischargeDepth := 7) [go_sem]; done) | (simp (maxDischargeDepth := 7) [go_sem, *]; done)
  clear ha hb
  refine kuz (b := w4.heap.size) hk7 (by first | (simp; done) | (simp; omega) | omega) ?_
  intro ha hb hz7_2 hn7_2 hm7_2
  have hf7_2_0 : w7.cell? ⟨w4.heap.size, 0, none⟩ = some (.int .i64 (wh (s))) := (ha _).trans (by first | with_reducible assumption | (simp (maxDischargeDepth := 7) [go_sem]; done) | (simp (maxDischargeDepth := 7) [go_sem, *]; done))
  have hf7_2_1 : w7.cell? ⟨w4.heap.size, 1, none⟩ = some (.int .u64 (wl (s))) := (ha _).trans (by first | with_reducible assumption | (simp (maxDischargeDepth := 7) [go_sem]; done) | (simp (maxDischargeDepth := 7) [go_sem, *]; done))
  try have hg7_2 : ∀ o, w7.frozen? ⟨w4.heap.size, o, none⟩ = false := by intro o; rw [hb]; first | (simp (maxDischargeDepth := 7) [go_sem]; done) | (simp (maxDischargeDepth := 7) [go_sem, *]; done)
  clear ha hb
  try clear hf6_0_0
  try clear hf6_0_1
  try clear hf6_1_0
  try clear hf6_1_1
  try clear hf6_2_0
  try clear hf6_2_1
  try clear hg6_0
  try clear hg6_1
  try clear hg6_2
  try clear hz6_1
  try clear hz6_2
  go_wp2_with fail
  refine (HE.out _ _ _ (sw_lit2E _ s t _ _ (by simp))).mono ?_
  rintro e w8 ⟨rfl, hk8⟩
  refine kuz (b := w.heap.size) hk8 (by first | (simp; done) | (simp; omega) | omega) ?_
  intro ha hb hz8_0 hn8_0 hm8_0
  have hf8_0_0 : w8.cell? ⟨w.heap.size, 0, none⟩ = some (.int .i64 a) := (ha _).trans (by first | with_reducible assumption | (simp (maxDischargeDepth := 7) [go_sem]; done) | (simp (maxDischargeDepth := 7) [go_sem, *]; done))
  have hf8_0_1 : w8.cell? ⟨w.heap.size, 1, none⟩ = some (.int .i64 b) := (ha _).trans (by first | with_reducible assumption | (simp (maxDischargeDepth := 7) [go_sem]; done) | (simp (maxDischargeDepth := 7) [go_sem, *]; done))
  try have hg8_0 : ∀ o, w8.frozen? ⟨w.heap.size, o, none⟩ = false := by intro o; rw [hb]; first | (simp (maxDischargeDepth := 7) [go_sem]; done) | (simp (maxDischargeDepth := 7) [go_sem, *]; done)
  clear ha hb
  refine kuz (b := w.heap.size + 1) hk8 (by first | (simp; done) | (simp; omega) | omega) ?_
  intro ha hb hz8_1 hn8_1 hm8_1
  have hf8_1_0 : w8.cell? ⟨w.heap.size + 1, 0, none⟩ = some (.int .i64 0) := (ha _).trans (by first | with_reducible assumption | (simp (maxDischargeDepth := 7) [go_sem]; done) | (simp (maxDischargeDepth := 7) [go_sem, *]; done))
  have hf8_1_1 : w8.cell? ⟨w.heap.size + 1, 1, none⟩ = some (.int .i64 0) := (ha _).trans (by first | with_reducible assumption | (simp (maxDischargeDepth := 7) [go_sem]; done) | (simp (maxDischargeDepth := 7) [go_sem, *]; done))
  try have hg8_1 : ∀ o, w8.frozen? ⟨w.heap.size + 1, o, none⟩ = false := by intro o; rw [hb]; first | (simp (maxDischargeDepth := 7) [go_sem]; done) | (simp (maxDischargeDepth := 7) [go_sem, *]; done)
  clear ha hb
  refine kuz (b := w4.heap.size) hk8 (by first | (simp; done) | (simp; omega) | omega) ?_
  intro ha hb hz8_2 hn8_2 hm8_2
  have hf8_2_0 : w8.cell? ⟨w4.heap.size, 0, none⟩ = some (.int .i64 (wh (s))) := (ha _).trans (by first | with_reducible assumption | (simp (maxDischargeDepth := 7) [go_sem]; done) | (simp (maxDischargeDepth := 7) [go_sem, *]; done))
  have hf8_2_1 : w8.cell? ⟨w4.heap.size, 1, none⟩ = some (.int .u64 (wl (s))) := (ha _).trans (by first | with_reducible assumption | (simp (maxDischargeDepth := 7) [go_sem]; done) | (simp (maxDischargeDepth := 7) [go_sem, *]; done))
  try have hg8_2 : ∀ o, w8.frozen? ⟨w4.heap.size, o, none⟩ = false := by intro o; rw [hb]; first | (simp (maxDischargeDepth := 7) [go_sem]; done) | (simp (maxDischargeDepth := 7) [go_sem, *]; done)
  clear ha hb
  refine kuz (b := w7.heap.size) hk8 (by first | (simp; done) | (simp; omega) | omega) ?_
  intro ha hb hz8_3 hn8_3 hm8_3
  have hf8_3_0 : w8.cell? ⟨w7.heap.size, 0, none⟩ = some (.int .i64 (wh (t))) := (ha _).trans (by first | with_reducible assumption | (simp (maxDischargeDepth := 7) [go_sem]; done) | (simp (maxDischargeDepth := 7) [go_sem, *]; done))
  have hf8_3_1 : w8.cell? ⟨w7.heap.size, 1, none⟩ = some (.int .u64 (wl (t))) := (ha _).trans (by first | with_reducible assumption | (simp (maxDischargeDepth := 7) [go_sem]; done) | (simp (maxDischargeDepth := 7) [go_sem, *]; done))
  try have hg8_3 : ∀ o, w8.frozen? ⟨w7.heap.size, o, none⟩ = false := by intro o; rw [hb]; first | (simp (maxDischargeDepth := 7) [go_sem]; done) | (simp (maxDischargeDepth := 7) [go_sem, *]; done)
  clear ha hb
  try clear hf7_0_0
  try clear hf7_0_1
  try clear hf7_1_0
  try clear hf7_1_1
  try clear hf7_2_0
  try clear hf7_2_1
  try clear hg7_0
  try clear hg7_1
  try clear hg7_2
  try clear hz7_1
  try clear hz7_2
  go_wp2_with fail
  all_goals exact bodyPost_ret (v := .tuple #[.agg #[.int .i64 0, .int .i64 0], .int .i64 2]) (by first | (simp [results, Try.results37, go_sem]; done) | (simp (maxDischargeDepth := 7) [results, Try.results37, go_sem, *]; done)) rfl ⟨rfl, (by repeat (first | with_reducible exact Kept.refl _ | with_reducible assumption | with_reducible refine Kept.setCell ?_ (by first | (simp; done) | (simp; omega) | omega) _ | with_reducible refine Kept.alloc ?_ _ | with_reducible refine Kept.drewN ?_ _ | with_reducible refine Kept.drew ?_ | with_reducible refine Kept.trans ?_ (by with_reducible assumption) | with_reducible refine Kept.dr ?_ (by with_reducible assumption)))⟩
set_option maxHeartbeats 2000000 in
set_option maxRecDepth 100000 in
theorem ref_iwiden_arg (a b k : Int) (h : b < a ∨ a < -4611686018427387904 ∨ 4611686018427387904 < b) (w : World) : Calls Try.prog 37 #[.agg #[.int .i64 a, .int .i64 b], .int .i64 k] w fun e w' => e = .returned (.tuple #[.agg #[.int .i64 0, .int .i64 0], .int .i64 1]) ∧ Kept w w' := by
  have HV := Lib.hid (ref_valid_bad a b h)
  clear h
  go_enter Try.func37, Try.ntmps37
  go_wp2_with fail
  with_reducible refine (HV.out _).mono ?_
  rintro e w1 ⟨rfl, hk1⟩
  refine kuz (b := w.heap.size) hk1 (by first | (simp; done) | (simp; omega) | omega) ?_
  intro ha hb hz1_0 hn1_0 hm1_0
  have hf1_0_0 : w1.cell? ⟨w.heap.size, 0, none⟩ = some (.int .i64 a) := (ha _).trans (by first | with_reducible assumption | (simp (maxDischargeDepth := 7) [go_sem]; done) | (simp (maxDischargeDepth := 7) [go_sem, *]; done))
  have hf1_0_1 : w1.cell? ⟨w.heap.size, 1, none⟩ = some (.int .i64 b) := (ha _).trans (by first | with_reducible assumption | (simp (maxDischargeDepth := 7) [go_sem]; done) | (simp (maxDischargeDepth := 7) [go_sem, *]; done))
  try have hg1_0 : ∀ o, w1.frozen? ⟨w.heap.size, o, none⟩ = false := by intro o; rw [hb]; first | (simp (maxDischargeDepth := 7) [go_sem]; done) | (simp (maxDischargeDepth := 7) [go_sem, *]; done)
  clear ha hb
  refine kuz (b := w.heap.size + 1) hk1 (by first | (simp; done) | (simp; omega) | omega) ?_
  intro ha hb hz1_1 hn1_1 hm1_1
  have hf1_1_0 : w1.cell? ⟨w.heap.size + 1, 0, none⟩ = some (.int .i64 0) := (ha _).trans (by first | with_reducible assumption | (simp (maxDischargeDepth := 7) [go_sem]; done) | (simp (maxDischargeDepth := 7) [go_sem, *]; done))
  have hf1_1_1 : w1.cell? ⟨w.heap.size + 1, 1, none⟩ = some (.int .i64 0) := (ha _).trans (by first | with_reducible assumption | (simp (maxDischargeDepth := 7) [go_sem]; done) | (simp (maxDischargeDepth := 7) [go_sem, *]; done))
  try have hg1_1 : ∀ o, w1.frozen? ⟨w.heap.size + 1, o, none⟩ = false := by intro o; rw [hb]; first | (simp (maxDischargeDepth := 7) [go_sem]; done) | (simp (maxDischargeDepth := 7) [go_sem, *]; done)
  clear ha hb
  go_wp2_with fail
  all_goals exact bodyPost_ret (v := .tuple #[.agg #[.int .i64 0, .int .i64 0], .int .i64 1]) (by first | (simp [results, Try.results37, go_sem]; done) | (simp (maxDischargeDepth := 7) [results, Try.results37, go_sem, *]; done)) rfl ⟨rfl, (by repeat (first | with_reducible exact Kept.refl _ | with_reducible assumption | with_reducible refine Kept.setCell ?_ (by first | (simp; done) | (simp; omega) | omega) _ | with_reducible refine Kept.alloc ?_ _ | with_reducible refine Kept.drewN ?_ _ | with_reducible refine Kept.drew ?_ | with_reducible refine Kept.trans ?_ (by with_reducible assumption) | with_reducible refine Kept.dr ?_ (by with_reducible assumption)))⟩
set_option maxHeartbeats 2000000 in
set_option maxRecDepth 100000 in
theorem ref_iwiden_neg (a b k : Int) (x1 : a ≤ b) (x2 : -4611686018427387904 ≤ a) (x3 : b ≤ 4611686018427387904) (h : k < 0) (w : World) : Calls Try.prog 37 #[.agg #[.int .i64 a, .int .i64 b], .int .i64 k] w fun e w' => e = .returned (.tuple #[.agg #[.int .i64 0, .int .i64 0], .int .i64 1]) ∧ Kept w w' := by
  have HV := Lib.hid (ref_valid_ok a b x1 x2 x3)
  clear x1 x2 x3
  go_enter Try.func37, Try.ntmps37
  go_wp2_with fail
  with_reducible refine (HV.out _).mono ?_
  rintro e w1 ⟨rfl, hk1⟩
  refine kuz (b := w.heap.size) hk1 (by first | (simp; done) | (simp; omega) | omega) ?_
  intro ha hb hz1_0 hn1_0 hm1_0
  have hf1_0_0 : w1.cell? ⟨w.heap.size, 0, none⟩ = some (.int .i64 a) := (ha _).trans (by first | with_reducible assumption | (simp (maxDischargeDepth := 7) [go_sem]; done) | (simp (maxDischargeDepth := 7) [go_sem, *]; done))
  have hf1_0_1 : w1.cell? ⟨w.heap.size, 1, none⟩ = some (.int .i64 b) := (ha _).trans (by first | with_reducible assumption | (simp (maxDischargeDepth := 7) [go_sem]; done) | (simp (maxDischargeDepth := 7) [go_sem, *]; done))
  try have hg1_0 : ∀ o, w1.frozen? ⟨w.heap.size, o, none⟩ = false := by intro o; rw [hb]; first | (simp (maxDischargeDepth := 7) [go_sem]; done) | (simp (maxDischargeDepth := 7) [go_sem, *]; done)
  clear ha hb
  refine kuz (b := w.heap.size + 1) hk1 (by first | (simp; done) | (simp; omega) | omega) ?_
  intro ha hb hz1_1 hn1_1 hm1_1
  have hf1_1_0 : w1.cell? ⟨w.heap.size + 1, 0, none⟩ = some (.int .i64 0) := (ha _).trans (by first | with_reducible assumption | (simp (maxDischargeDepth := 7) [go_sem]; done) | (simp (maxDischargeDepth := 7) [go_sem, *]; done))
  have hf1_1_1 : w1.cell? ⟨w.heap.size + 1, 1, none⟩ = some (.int .i64 0) := (ha _).trans (by first | with_reducible assumption | (simp (maxDischargeDepth := 7) [go_sem]; done) | (simp (maxDischargeDepth := 7) [go_sem, *]; done))
  try have hg1_1 : ∀ o, w1.frozen? ⟨w.heap.size + 1, o, none⟩ = false := by intro o; rw [hb]; first | (simp (maxDischargeDepth := 7) [go_sem]; done) | (simp (maxDischargeDepth := 7) [go_sem, *]; done)
  clear ha hb
  go_wp2_with fail
  all_goals exact bodyPost_ret (v := .tuple #[.agg #[.int .i64 0, .int .i64 0], .int .i64 1]) (by first | (simp [results, Try.results37, go_sem]; done) | (simp (maxDischargeDepth := 7) [results, Try.results37, go_sem, *]; done)) rfl ⟨rfl, (by repeat (first | with_reducible exact Kept.refl _ | with_reducible assumption | with_reducible refine Kept.setCell ?_ (by first | (simp; done) | (simp; omega) | omega) _ | with_reducible refine Kept.alloc ?_ _ | with_reducible refine Kept.drewN ?_ _ | with_reducible refine Kept.drew ?_ | with_reducible refine Kept.trans ?_ (by with_reducible assumption) | with_reducible refine Kept.dr ?_ (by with_reducible assumption)))⟩
end Go.Proofs.Ytinpmooihjdbgaa
