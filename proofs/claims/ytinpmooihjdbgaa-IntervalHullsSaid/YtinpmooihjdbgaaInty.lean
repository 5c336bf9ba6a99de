/-
  Own contracts: the document's interval of numbers.
-/
import Derived.Test.YtinpmooihjdbgaaRow
import Derived.Test.YtinpmooihjdbgaaIntx
import Derived.Test.YtinpmooihjdbgaaWidr
import Derived.WalkKit
import Derived.ProofKit
import Derived.OpenShut
import Derived.WalkLawsBesides
import Derived.WalkSpells
import Derived.Lib.Hide
import Derived.Deep.DeepCutAuto
import Derived.Deep.CutBlock
import Derived.Deep.QuietTactic
import Derived.BigQuiet
import Derived.Handy
import Derived.StillTailTactics
import Derived.IntWalk
import Derived.LoopN
import Derived.Deep.RegionHeld3
namespace Go.Proofs.Ytinpmooihjdbgaa
open Go.ChangeShapes Go.WideShapes Go.ChangeAt Go.RowKit
set_option linter.unusedVariables false
set_option linter.unusedSimpArgs false
theorem kuz {W w1 : World} {b : Nat} {G : Prop} (h : Kept W w1) (hb : b < W.heap.size) (g : (∀ o, w1.cell? ⟨b, o, none⟩ = W.cell? ⟨b, o, none⟩) → (∀ o, w1.frozen? ⟨b, o, none⟩ = W.frozen? ⟨b, o, none⟩) → b < w1.heap.size → ¬ b = w1.heap.size → ¬ w1.heap.size = b → G) : G := by
  have z : b < w1.heap.size := Nat.lt_of_lt_of_le hb h.size
  exact g (kcell h b hb).1 (kcell h b hb).2 z (by omega) (by omega)
theorem own_s2 {W : World} {b : Nat} {u0 u1 v0 v1 : Value} (o : OwnB W b [u0, u1]) : OwnB ((W.setCell ⟨b, 0, none⟩ v0).setCell ⟨b, 1, none⟩ v1) b [v0, v1] := own_set2 o rfl
/-- a slice of wides -/
structure SW (W : World) (b n : Nat) (L : Nat → Int) : Prop where
  c0 : ∀ i, i < n → W.cell? ⟨b, i * 2, none⟩ = some (.int .i64 (wh (L i)))
  c1 : ∀ i, i < n → W.cell? ⟨b, i * 2 + 1, none⟩ = some (.int .u64 (wl (L i)))
  fr : ∀ o, W.frozen? ⟨b, o, none⟩ = false
  sz : b < W.heap.size
theorem SW.kept {W W' : World} {b n : Nat} {L : Nat → Int} (h : SW W b n L) (hk : Kept W W') : SW W' b n L :=
  ⟨fun i hi => (hk.cell (p := ⟨b, i * 2, none⟩) h.sz).trans (h.c0 i hi), fun i hi => (hk.cell (p := ⟨b, i * 2 + 1, none⟩) h.sz).trans (h.c1 i hi), fun o => (hk.frozen (p := ⟨b, o, none⟩) h.sz).trans (h.fr o), Nat.lt_of_lt_of_le h.sz hk.size⟩
def mnR (A : Nat → Int) : Nat → Int
  | 0 => A 0
  | k + 1 => min (mnR A k) (A k)
def mxR (A : Nat → Int) : Nat → Int
  | 0 => A 0
  | k + 1 => max (mxR A k) (A k)
theorem SW.at_ {W W' : World} {b n : Nat} {L : Nat → Int} (h : Hid (SW W b n L)) (hk : Kept W W') (k : Nat) (hi : k < n) : W'.cell? ⟨b, k * 2, none⟩ = some (.int .i64 (wh (L k))) ∧ W'.cell? ⟨b, k * 2 + 1, none⟩ = some (.int .u64 (wl (L k))) ∧ (∀ o, W'.frozen? ⟨b, o, none⟩ = false) ∧ b < W'.heap.size :=
  ⟨(h.out.kept hk).c0 k hi, (h.out.kept hk).c1 k hi, (h.out.kept hk).fr, (h.out.kept hk).sz⟩
theorem rcmp_neg (u v : Int) (h : u < v) (w : World) : Calls Try.prog 88 #[.agg #[.int .i64 (wh (u)), .int .u64 (wl (u))], .agg #[.int .i64 (wh (v)), .int .u64 (wl (v))]] w fun e w' => e = .returned (.int .i64 (-1)) ∧ Kept w w' := by
  have t := ref_cmp_w u v w
  rwa [show wcm u v = -1 by unfold wcm; rw [if_pos h]] at t
theorem rcmp_ge (u v : Int) (h : v ≤ u) (w : World) : Calls Try.prog 88 #[.agg #[.int .i64 (wh (u)), .int .u64 (wl (u))], .agg #[.int .i64 (wh (v)), .int .u64 (wl (v))]] w fun e w' => ∃ r : Int, (0 ≤ r ∧ r ≤ 1) ∧ e = .returned (.int .i64 r) ∧ Kept w w' := by
  have t := ref_cmp_w u v w
  refine t.mono fun e w' ⟨a, b⟩ => ⟨wcm u v, ?_, a, b⟩
  unfold wcm; rw [if_neg (by omega)]; split <;> omega
theorem rcmp_pos (u v : Int) (h : v < u) (w : World) : Calls Try.prog 88 #[.agg #[.int .i64 (wh (u)), .int .u64 (wl (u))], .agg #[.int .i64 (wh (v)), .int .u64 (wl (v))]] w fun e w' => e = .returned (.int .i64 1) ∧ Kept w w' := by
  have t := ref_cmp_w u v w
  rwa [show wcm u v = 1 by unfold wcm; rw [if_neg (by omega), if_neg (by omega)]] at t
theorem rcmp_le (u v : Int) (h : u ≤ v) (w : World) : Calls Try.prog 88 #[.agg #[.int .i64 (wh (u)), .int .u64 (wl (u))], .agg #[.int .i64 (wh (v)), .int .u64 (wl (v))]] w fun e w' => ∃ r : Int, (-1 ≤ r ∧ r ≤ 0) ∧ e = .returned (.int .i64 r) ∧ Kept w w' := by
  have t := ref_cmp_w u v w
  refine t.mono fun e w' ⟨a, b⟩ => ⟨wcm u v, ?_, a, b⟩
  unfold wcm; split
  · omega
  · rw [if_pos (by omega)]; omega
theorem eqW3 (A a B b : Int) (w : World) : (Op.equalIn 10000 45 (.agg #[.int .i64 A, .int .u64 a]) (.agg #[.int .i64 B, .int .u64 b])).run Try.prog w = .ok (A == B && a == b) w := by
  go_simp
  by_cases h1 : A = B <;> by_cases h2 : a = b <;> simp [h1, h2]
set_option maxHeartbeats 2000000 in
set_option maxRecDepth 100000 in
theorem ref_int_ok (v : Int) (h : -9223372036854775808 ≤ v ∧ v ≤ 9223372036854775807) (w : World) : Calls Try.prog 89 #[.agg #[.int .i64 (wh (v)), .int .u64 (wl (v))]] w fun e w' => e = .returned (.tuple #[.int .i64 v, .bool true]) ∧ Kept w w' := by
  obtain ⟨ev, l0, l1⟩ := wv v
  obtain ⟨c, hc⟩ : ∃ c, wrap64 (wl v) = c := ⟨_, rfl⟩
  have c0 : -9223372036854775808 ≤ c := by rw [← hc]; unfold wrap64; omega
  have c1 : c ≤ 9223372036854775807 := by rw [← hc]; unfold wrap64; omega
  have HO := ref_of_w c c0 c1
  have wlc : wl c = wl v := by rw [← hc]; unfold wl wrap64; omega
  rw [wlc] at HO
  have hc2 : IntKind.i64.wrap (wl v) = c := (IntWalk.i64_left _).trans hc
  have HC := Lib.hid hc
  have cv : c = v := by rw [← hc]; exact wrap_wl v h.1 h.2
  have whc : wh c = wh v := by rw [cv]
  rw [whc] at HO
  have eqz : ∀ w, (Op.equalIn 10000 45 (.agg #[.int .i64 (wh v), .int .u64 (wl v)]) (.agg #[.int .i64 (wh v), .int .u64 (wl v)])).run Try.prog w = .ok true w := fun w => by rw [eqW3]; simp
  have HV := Lib.hid cv
  clear cv whc ev h wlc
  generalize wl v = L at *; generalize wh v = H at *
  have HO2 : Hid (∀ w, Calls Try.prog 57 #[.int .i64 (IntKind.i64.wrap L)] w fun e w' => e = .returned (.agg #[.int .i64 H, .int .u64 L]) ∧ Kept w w') := Lib.hid (by rw [hc2]; exact HO)
  clear HO hc2
  go_enter Try.func89, Try.ntmps89
  go_wp2_with fail
  go_region_held3 (fun W => W.cell? ⟨w.heap.size, 0, none⟩ = some (.int .i64 H) ∧ W.cell? ⟨w.heap.size, 1, none⟩ = some (.int .u64 L)) (first | (go_keep; done) | (simp (maxDischargeDepth := 9) [*, World.cell?_alloc_some, World.cell?_setCell_far]; done) | (simp (maxDischargeDepth := 9) [go_sem, *]; done)) (first | (go_at_call 57; (first | with_reducible refine (HO2.out _).mono ?_); rintro e w' ⟨rfl, hk⟩; have hz := hk.size; (try (refine kuse (b := w.heap.size) hk (by first | (simp; done) | (simp; omega) | omega) ?_; intro hq0 hg0; have hy0 : w.heap.size < w'.heap.size := (by (try simp at hz); omega); have hn0 : ¬ w.heap.size = w'.heap.size := (by omega); have hm0 : ¬ w.heap.size = w'.heap.size + 1 := (by omega); refine withF (p := w'.cell? ⟨w.heap.size, 0, none⟩ = some (.int .i64 H)) (by first | (rw [hq0]; with_reducible assumption) | (simp (maxDischargeDepth := 7) [go_sem, hq0]; done) | (simp (maxDischargeDepth := 7) [go_sem, hq0, *]; done) | fail) ?_; intro ff00; refine withF (p := w'.cell? ⟨w.heap.size, 1, none⟩ = some (.int .u64 L)) (by first | (rw [hq0]; with_reducible assumption) | (simp (maxDischargeDepth := 7) [go_sem, hq0]; done) | (simp (maxDischargeDepth := 7) [go_sem, hq0, *]; done) | fail) ?_; intro ff01))))
  all_goals (try go_wp2_with fail)
  all_goals go_ret2
  all_goals refine ⟨?_, (by repeat (first | with_reducible exact Kept.refl _ | with_reducible assumption | with_reducible refine Kept.setCell ?_ (by first | (simp; done) | (simp; omega) | omega) _ | with_reducible refine Kept.alloc ?_ _ | with_reducible refine Kept.drewN ?_ _ | with_reducible refine Kept.drew ?_ | with_reducible refine Kept.trans ?_ (by with_reducible assumption) | with_reducible refine Kept.dr ?_ (by with_reducible assumption)))⟩
  all_goals (show Ending.returned (.tuple #[.int .i64 (wrap64 L), .bool true]) = _; rw [HC.out, HV.out])
set_option maxHeartbeats 2000000 in
set_option maxRecDepth 100000 in
theorem ref_int_no (v : Int) (h : v < -9223372036854775808 ∨ 9223372036854775807 < v) (w : World) : Calls Try.prog 89 #[.agg #[.int .i64 (wh (v)), .int .u64 (wl (v))]] w fun e w' => e = .returned (.tuple #[.int .i64 0, .bool false]) ∧ Kept w w' := by
  obtain ⟨ev, l0, l1⟩ := wv v
  obtain ⟨c, hc⟩ : ∃ c, wrap64 (wl v) = c := ⟨_, rfl⟩
  have c0 : -9223372036854775808 ≤ c := by rw [← hc]; unfold wrap64; omega
  have c1 : c ≤ 9223372036854775807 := by rw [← hc]; unfold wrap64; omega
  have HO := ref_of_w c c0 c1
  have wlc : wl c = wl v := by rw [← hc]; unfold wl wrap64; omega
  rw [wlc] at HO
  have hc2 : IntKind.i64.wrap (wl v) = c := (IntWalk.i64_left _).trans hc
  have HC := Lib.hid hc
  have whc : wh c ≠ wh v := by
    intro e
    have := w_ext e wlc
    omega
  have n0 : (wh c == wh v && wl v == wl v) = false := by rw [Bool.and_eq_false_iff]; left; rw [beq_eq_false_iff_ne]; exact whc
  have eqz : ∀ w, (Op.equalIn 10000 45 (.agg #[.int .i64 (wh c), .int .u64 (wl v)]) (.agg #[.int .i64 (wh v), .int .u64 (wl v)])).run Try.prog w = .ok false w := fun w => by rw [eqW3, n0]
  clear n0 whc wlc ev h
  generalize wh c = C at *
  generalize wl v = L at *; generalize wh v = H at *
  have HO2 : Hid (∀ w, Calls Try.prog 57 #[.int .i64 (IntKind.i64.wrap L)] w fun e w' => e = .returned (.agg #[.int .i64 C, .int .u64 L]) ∧ Kept w w') := Lib.hid (by rw [hc2]; exact HO)
  clear HO hc2
  go_enter Try.func89, Try.ntmps89
  go_wp2_with fail
  go_region_held3 (fun W => W.cell? ⟨w.heap.size, 0, none⟩ = some (.int .i64 H) ∧ W.cell? ⟨w.heap.size, 1, none⟩ = some (.int .u64 L)) (first | (go_keep; done) | (simp (maxDischargeDepth := 9) [*, World.cell?_alloc_some, World.cell?_setCell_far]; done) | (simp (maxDischargeDepth := 9) [go_sem, *]; done)) (first | (go_at_call 57; (first | with_reducible refine (HO2.out _).mono ?_); rintro e w' ⟨rfl, hk⟩; have hz := hk.size; (try (refine kuse (b := w.heap.size) hk (by first | (simp; done) | (simp; omega) | omega) ?_; intro hq0 hg0; have hy0 : w.heap.size < w'.heap.size := (by (try simp at hz); omega); have hn0 : ¬ w.heap.size = w'.heap.size := (by omega); have hm0 : ¬ w.heap.size = w'.heap.size + 1 := (by omega); refine withF (p := w'.cell? ⟨w.heap.size, 0, none⟩ = some (.int .i64 H)) (by first | (rw [hq0]; with_reducible assumption) | (simp (maxDischargeDepth := 7) [go_sem, hq0]; done) | (simp (maxDischargeDepth := 7) [go_sem, hq0, *]; done) | fail) ?_; intro ff00; refine withF (p := w'.cell? ⟨w.heap.size, 1, none⟩ = some (.int .u64 L)) (by first | (rw [hq0]; with_reducible assumption) | (simp (maxDischargeDepth := 7) [go_sem, hq0]; done) | (simp (maxDischargeDepth := 7) [go_sem, hq0, *]; done) | fail) ?_; intro ff01))))
  all_goals (try go_wp2_with fail)
  all_goals (go_ret2; exact ⟨rfl, (by repeat (first | with_reducible exact Kept.refl _ | with_reducible assumption | with_reducible refine Kept.setCell ?_ (by first | (simp; done) | (simp; omega) | omega) _ | with_reducible refine Kept.alloc ?_ _ | with_reducible refine Kept.drewN ?_ _ | with_reducible refine Kept.drew ?_ | with_reducible refine Kept.trans ?_ (by with_reducible assumption) | with_reducible refine Kept.dr ?_ (by with_reducible assumption)))⟩)
set_option maxHeartbeats 4000000 in
set_option maxRecDepth 100000 in
theorem ref_made_ok (n bA cA bB cB : Nat) (A B : Nat → Int) (hn : 0 < n) (hm : n ≤ 1000) (l g : Int) (hl : Hid (mnR A n = l)) (hg : Hid (mxR B n = g)) (k0 : -4611686018427387904 ≤ l) (k1 : l ≤ g) (k2 : g ≤ 4611686018427387904) (w : World) (hA : SW w bA n A) (hB : SW w bB n B) : Calls Try.prog 78 #[.slice (some ⟨bA, 0, none⟩) n cA, .slice (some ⟨bB, 0, none⟩) n cB] w fun e w' => e = .returned (.tuple #[.agg #[.int .i64 l, .int .i64 g], .int .i64 0]) ∧ Kept w w' := by
  have HSA := Lib.hid hA
  have HSB := Lib.hid hB
  obtain ⟨hf_c0_0_0, hf_c0_0_1, hg_c0_0, hz_c0_0⟩ := SW.at_ HSA (Kept.refl w) 0 hn
  obtain ⟨hf_c0_1_0, hf_c0_1_1, hg_c0_1, hz_c0_1⟩ := SW.at_ HSB (Kept.refl w) 0 hn
  clear hA hB
  simp only [Nat.zero_mul, Nat.zero_add] at hf_c0_0_0 hf_c0_0_1 hf_c0_1_0 hf_c0_1_1
  obtain ⟨A0, hA0⟩ : ∃ x, A 0 = x := ⟨_, rfl⟩
  obtain ⟨B0, hB0⟩ : ∃ x, B 0 = x := ⟨_, rfl⟩
  rw [hA0] at hf_c0_0_0 hf_c0_0_1
  rw [hB0] at hf_c0_1_0 hf_c0_1_1
  have HA0 := Lib.hid hA0
  have HB0 := Lib.hid hB0
  clear hA0 hB0
  have HN := Lib.hid hn
  have nn : ¬ n = 0 := by omega
  go_enter Try.func78, Try.ntmps78
  have B0 : OwnB (w.alloc (.cells #[.int .i64 0, .int .i64 0] 23)) (bA) [.int .i64 (wh (A0)), .int .u64 (wl (A0))] := OwnB.alloc (show OwnB w (bA) [.int .i64 (wh (A0)), .int .u64 (wl (A0))] from ⟨hz_c0_0, hg_c0_0, hf_c0_0_0, hf_c0_0_1, trivial⟩) _
  have HB0_0 := Lib.hid B0
  clear B0
  have B1 : OwnB (w.alloc (.cells #[.int .i64 0, .int .i64 0] 23)) (bB) [.int .i64 (wh (B0)), .int .u64 (wl (B0))] := OwnB.alloc (show OwnB w (bB) [.int .i64 (wh (B0)), .int .u64 (wl (B0))] from ⟨hz_c0_1, hg_c0_1, hf_c0_1_0, hf_c0_1_1, trivial⟩) _
  have HB0_1 := Lib.hid B1
  clear B1
  have B2 : OwnB (w.alloc (.cells #[.int .i64 0, .int .i64 0] 23)) (w.heap.size) [.int .i64 0, .int .i64 0] := own_alloc _ [.int .i64 0, .int .i64 0] 23
  have HB0_2 := Lib.hid B2
  clear B2
  go_upto_region 1 with (fail)
  go_cut [6, 7] (fun p0 p1 wx => ∃ b0 b1 : Nat, p0 = .pointer (some ⟨b0, 0, none⟩) ∧ p1 = .pointer (some ⟨b1, 0, none⟩) ∧ w.heap.size < b0 ∧ w.heap.size < b1 ∧ b1 ≠ b0 ∧ OwnB wx (b0) [.int .i64 (wh (A0)), .int .u64 (wl (A0))] ∧ OwnB wx (b1) [.int .i64 (wh (B0)), .int .u64 (wl (B0))] ∧ OwnB wx (bA) [.int .i64 (wh (A0)), .int .u64 (wl (A0))] ∧ OwnB wx (bB) [.int .i64 (wh (B0)), .int .u64 (wl (B0))] ∧ OwnB wx (w.heap.size) [.int .i64 0, .int .i64 0] ∧ Kept (w.alloc (.cells #[.int .i64 0, .int .i64 0] 23)) wx)
  case first =>
    go_region_held3 (fun W => W.cell? ⟨bA, 0, none⟩ = some (.int .i64 (wh (A0))) ∧ W.cell? ⟨bA, 1, none⟩ = some (.int .u64 (wl (A0))) ∧ W.cell? ⟨bB, 0, none⟩ = some (.int .i64 (wh (B0))) ∧ W.cell? ⟨bB, 1, none⟩ = some (.int .u64 (wl (B0)))) (first | (go_keep; done) | (simp (maxDischargeDepth := 9) [*, World.cell?_alloc_some, World.cell?_setCell_far]; done) | (simp (maxDischargeDepth := 9) [go_sem, *]; done)) (first | (fail))
    all_goals (try go_wp2_with fail)
    all_goals (go_meet; case rel => refine (fun (hkx : Kept (w.alloc (.cells #[.int .i64 0, .int .i64 0] 23)) _) => ⟨_, _, rfl, rfl, (by first | with_reducible assumption | omega | (simp; omega)), (by first | with_reducible assumption | omega | (simp; omega)), (by first | with_reducible assumption | omega | (simp; omega)), (by repeat (first | with_reducible exact own_alloc _ [.int .i64 (wh (A0)), .int .u64 (wl (A0))] 45 | with_reducible exact own_alloc _ [.int .i64 0, .int .u64 0] 45 | ((with_reducible refine own_allocE _ [.int .i64 (wh (A0)), .int .u64 (wl (A0))] 45 _ ?_); (simp; done)) | ((with_reducible refine own_allocE _ [.int .i64 0, .int .u64 0] 45 _ ?_); (simp; done)) | with_reducible refine own_set2 (us := [.int .i64 0, .int .u64 0]) ?_ rfl | with_reducible refine OwnB.other2 ?_ (by first | with_reducible assumption | omega | (simp; done) | (simp; omega)) | with_reducible refine OwnB.alloc ?_ _ | with_reducible refine OwnB.drew ?_ | with_reducible refine OwnB.drewN ?_ _ | with_reducible refine OwnB.kept (by with_reducible assumption) ?_)), (by repeat (first | with_reducible exact own_alloc _ [.int .i64 (wh (B0)), .int .u64 (wl (B0))] 45 | with_reducible exact own_alloc _ [.int .i64 0, .int .u64 0] 45 | ((with_reducible refine own_allocE _ [.int .i64 (wh (B0)), .int .u64 (wl (B0))] 45 _ ?_); (simp; done)) | ((with_reducible refine own_allocE _ [.int .i64 0, .int .u64 0] 45 _ ?_); (simp; done)) | with_reducible refine own_set2 (us := [.int .i64 0, .int .u64 0]) ?_ rfl | with_reducible refine OwnB.other2 ?_ (by first | with_reducible assumption | omega | (simp; done) | (simp; omega)) | with_reducible refine OwnB.alloc ?_ _ | with_reducible refine OwnB.drew ?_ | with_reducible refine OwnB.drewN ?_ _ | with_reducible refine OwnB.kept (by with_reducible assumption) ?_)), OwnB.kept hkx HB0_0.out, OwnB.kept hkx HB0_1.out, OwnB.kept hkx HB0_2.out, hkx⟩) ?_; exact (by repeat (first | with_reducible exact Kept.refl _ | with_reducible assumption | with_reducible refine Kept.set12 ?_ (by first | with_reducible assumption | omega | (simp; done) | (simp; omega)) | with_reducible refine Kept.set11 ?_ (by first | with_reducible assumption | omega | (simp; done) | (simp; omega)) | with_reducible refine Kept.set10 ?_ (by first | with_reducible assumption | omega | (simp; done) | (simp; omega)) | with_reducible refine Kept.set9 ?_ (by first | with_reducible assumption | omega | (simp; done) | (simp; omega)) | with_reducible refine Kept.set8 ?_ (by first | with_reducible assumption | omega | (simp; done) | (simp; omega)) | with_reducible refine Kept.set7 ?_ (by first | with_reducible assumption | omega | (simp; done) | (simp; omega)) | with_reducible refine Kept.set6 ?_ (by first | with_reducible assumption | omega | (simp; done) | (simp; omega)) | with_reducible refine Kept.set5 ?_ (by first | with_reducible assumption | omega | (simp; done) | (simp; omega)) | with_reducible refine Kept.set4 ?_ (by first | with_reducible assumption | omega | (simp; done) | (simp; omega)) | with_reducible refine Kept.set3 ?_ (by first | with_reducible assumption | omega | (simp; done) | (simp; omega)) | with_reducible refine Kept.set2 ?_ (by first | with_reducible assumption | omega | (simp; done) | (simp; omega)) | with_reducible refine Kept.setCell ?_ (by first | with_reducible assumption | omega | (simp; done) | (simp; omega)) _ | with_reducible refine Kept.alloc ?_ _ | with_reducible refine Kept.drewN ?_ _ | with_reducible refine Kept.drew ?_ | with_reducible refine Kept.trans ?_ (by with_reducible assumption) | with_reducible refine Kept.dr ?_ (by with_reducible assumption))))
  case rest =>
  obtain ⟨b1_0, b1_1, rfl, rfl, lt1_0, lt1_1, ne1_1_0, O1_0, O1_1, O1_2, O1_3, O1_4, hkc1⟩ := hcut
  obtain ⟨hz_c1_0, hg_c1_0, hf_c1_0_0, hf_c1_0_1, _⟩ := O1_0
  obtain ⟨hz_c1_1, hg_c1_1, hf_c1_1_0, hf_c1_1_1, _⟩ := O1_1
  obtain ⟨hz_c1_2, hg_c1_2, hf_c1_2_0, hf_c1_2_1, _⟩ := O1_2
  obtain ⟨hz_c1_3, hg_c1_3, hf_c1_3_0, hf_c1_3_1, _⟩ := O1_3
  obtain ⟨hz_c1_4, hg_c1_4, hf_c1_4_0, hf_c1_4_1, _⟩ := O1_4
  go_wp2_with fail
  have hkcw : Kept w wc := Kept.trans ((Kept.refl w).alloc _) hkc1
  go_loopw [22] (fun i wr => ∃ k : Nat, i = .int .i64 k ∧ k ≤ n ∧ Hid (OwnB wr (b1_0) [.int .i64 (wh (mnR A k)), .int .u64 (wl (mnR A k))]) ∧ Hid (OwnB wr (b1_1) [.int .i64 (wh (mxR B k)), .int .u64 (wl (mxR B k))]) ∧ Hid (OwnB wr (w.heap.size) [.int .i64 0, .int .i64 0]) ∧ Hid (Kept w wr)) (fun i _ => n - (intOf i).toNat)
  case atStart => exact ⟨0, rfl, Nat.zero_le _, Lib.hid (show OwnB wc (b1_0) [.int .i64 (wh (A 0)), .int .u64 (wl (A 0))] from HA0.out.symm ▸ (⟨hz_c1_0, hg_c1_0, hf_c1_0_0, hf_c1_0_1, trivial⟩ : OwnB wc (b1_0) [.int .i64 (wh (A0)), .int .u64 (wl (A0))])), Lib.hid (show OwnB wc (b1_1) [.int .i64 (wh (B 0)), .int .u64 (wl (B 0))] from HB0.out.symm ▸ (⟨hz_c1_1, hg_c1_1, hf_c1_1_0, hf_c1_1_1, trivial⟩ : OwnB wc (b1_1) [.int .i64 (wh (B0)), .int .u64 (wl (B0))])), Lib.hid ⟨hz_c1_4, hg_c1_4, hf_c1_4_0, hf_c1_4_1, trivial⟩, Lib.hid hkcw⟩
  case round =>
    obtain ⟨k, rfl, hk, HO0, HO1, HO2, HK⟩ := hrel
    have HW := HK
    have HW' := HK
    by_cases hlt : k < n
    · by_cases clt : A k < mnR A k
      · by_cases cgt : mxR B k < B k
        · obtain ⟨a0, a1, a2, a3⟩ := SW.at_ HSA HW'.out k hlt
          obtain ⟨d0, d1, d2, d3⟩ := SW.at_ HSB HW'.out k hlt
          have q1 : mnR A (k + 1) = min (mnR A k) (A k) := rfl
          have q2 : mxR B (k + 1) = max (mxR B k) (B k) := rfl
          have Q1 := Lib.hid (show mnR A (k + 1) = A k by rw [q1]; omega)
          have Q2 := Lib.hid (show mxR B (k + 1) = B k by rw [q2]; omega)
          clear q1 q2
          obtain ⟨x, hx⟩ : ∃ x, A k = x := ⟨_, rfl⟩
          obtain ⟨y, hy⟩ : ∃ x, B k = x := ⟨_, rfl⟩
          rw [hx] at a0 a1 clt
          try rw [hx] at Q1
          rw [hy] at d0 d1 cgt
          try rw [hy] at Q2
          clear hx hy
          obtain ⟨L, hL⟩ : ∃ x, mnR A k = x := ⟨_, rfl⟩
          obtain ⟨G, hG⟩ : ∃ x, mxR B k = x := ⟨_, rfl⟩
          rw [hL] at HO0 clt
          try rw [hL] at Q1
          rw [hG] at HO1 cgt
          try rw [hG] at Q2
          clear hL hG
          have kb : (k : Int) < n := by omega
          have hkk := HK.out
          have hsz := hkk.size
          have hww := HW'.out
          clear HW HK
          have s1 := HSA.out.sz
          have s2 := HSB.out.sz
          have n1 : ¬ bA = b1_0 := by omega
          have n2 : ¬ bA = b1_1 := by omega
          have n3 : ¬ bB = b1_0 := by omega
          have n4 : ¬ bB = b1_1 := by omega
          have n5 : ¬ b1_0 = b1_1 := fun e => ne1_1_0 e.symm
          have n6 : ¬ w.heap.size = b1_0 := by omega
          have n7 : ¬ w.heap.size = b1_1 := by omega
          have n8 : w.heap.size ≤ b1_0 := by omega
          have n9 : w.heap.size ≤ b1_1 := by omega
          clear s1 s2
          obtain ⟨hz_c9_0, hg_c9_0, hf_c9_0_0, hf_c9_0_1, _⟩ := HO0.out
          obtain ⟨hz_c9_1, hg_c9_1, hf_c9_1_0, hf_c9_1_1, _⟩ := HO1.out
          obtain ⟨hz_c9_2, hg_c9_2, hf_c9_2_0, hf_c9_2_1, _⟩ := HO2.out
          go_wp2_with fail
          go_region_held3 (fun W => W.cell? ⟨bA, k * 2, none⟩ = some (.int .i64 (wh x)) ∧ W.cell? ⟨bA, k * 2 + 1, none⟩ = some (.int .u64 (wl x)) ∧ W.cell? ⟨b1_0, 0, none⟩ = some (.int .i64 (wh L)) ∧ W.cell? ⟨b1_0, 1, none⟩ = some (.int .u64 (wl L))) (first | (go_keep; done) | (simp (maxDischargeDepth := 9) [*, World.cell?_alloc_some, World.cell?_setCell_far]; done) | (simp (maxDischargeDepth := 9) [go_sem, *]; done)) (first | (go_at_call 88; with_reducible refine (rcmp_neg x L clt _).mono ?_; rintro e w2 ⟨rfl, hk2⟩; refine kuse (b := bA) hk2 (by first | with_reducible assumption | (simp; done) | (simp; omega) | omega) ?_; intro hq hg; have hy : bA < w2.heap.size := kept_lt hk2 (by first | with_reducible assumption | (simp; done) | (simp; omega) | omega); have ff := (hq (k * 2)).trans (show _ = some (.int .i64 (wh x)) by first | with_reducible assumption | (simp (maxDischargeDepth := 5) [go_sem]; done) | (simp (maxDischargeDepth := 5) [go_sem, *]; done)); have ff := (hq (k * 2 + 1)).trans (show _ = some (.int .u64 (wl x)) by first | with_reducible assumption | (simp (maxDischargeDepth := 5) [go_sem]; done) | (simp (maxDischargeDepth := 5) [go_sem, *]; done)); have gg := fun o => (hg o).trans (show _ = false by first | (with_reducible apply_assumption; done) | (simp (maxDischargeDepth := 5) [go_sem]; done) | (simp (maxDischargeDepth := 5) [go_sem, *]; done)); clear hq hg; refine kuse (b := bB) hk2 (by first | with_reducible assumption | (simp; done) | (simp; omega) | omega) ?_; intro hq hg; have hy : bB < w2.heap.size := kept_lt hk2 (by first | with_reducible assumption | (simp; done) | (simp; omega) | omega); have ff := (hq (k * 2)).trans (show _ = some (.int .i64 (wh y)) by first | with_reducible assumption | (simp (maxDischargeDepth := 5) [go_sem]; done) | (simp (maxDischargeDepth := 5) [go_sem, *]; done)); have ff := (hq (k * 2 + 1)).trans (show _ = some (.int .u64 (wl y)) by first | with_reducible assumption | (simp (maxDischargeDepth := 5) [go_sem]; done) | (simp (maxDischargeDepth := 5) [go_sem, *]; done)); have gg := fun o => (hg o).trans (show _ = false by first | (with_reducible apply_assumption; done) | (simp (maxDischargeDepth := 5) [go_sem]; done) | (simp (maxDischargeDepth := 5) [go_sem, *]; done)); clear hq hg; refine kuse (b := b1_0) hk2 (by first | with_reducible assumption | (simp; done) | (simp; omega) | omega) ?_; intro hq hg; have hy : b1_0 < w2.heap.size := kept_lt hk2 (by first | with_reducible assumption | (simp; done) | (simp; omega) | omega); have ff := (hq (0)).trans (show _ = some (.int .i64 (wh L)) by first | with_reducible assumption | (simp (maxDischargeDepth := 5) [go_sem]; done) | (simp (maxDischargeDepth := 5) [go_sem, *]; done)); have ff := (hq (1)).trans (show _ = some (.int .u64 (wl L)) by first | with_reducible assumption | (simp (maxDischargeDepth := 5) [go_sem]; done) | (simp (maxDischargeDepth := 5) [go_sem, *]; done)); have gg := fun o => (hg o).trans (show _ = false by first | (with_reducible apply_assumption; done) | (simp (maxDischargeDepth := 5) [go_sem]; done) | (simp (maxDischargeDepth := 5) [go_sem, *]; done)); clear hq hg; refine kuse (b := b1_1) hk2 (by first | with_reducible assumption | (simp; done) | (simp; omega) | omega) ?_; intro hq hg; have hy : b1_1 < w2.heap.size := kept_lt hk2 (by first | with_reducible assumption | (simp; done) | (simp; omega) | omega); have ff := (hq (0)).trans (show _ = some (.int .i64 (wh G)) by first | with_reducible assumption | (simp (maxDischargeDepth := 5) [go_sem]; done) | (simp (maxDischargeDepth := 5) [go_sem, *]; done)); have ff := (hq (1)).trans (show _ = some (.int .u64 (wl G)) by first | with_reducible assumption | (simp (maxDischargeDepth := 5) [go_sem]; done) | (simp (maxDischargeDepth := 5) [go_sem, *]; done)); have gg := fun o => (hg o).trans (show _ = false by first | (with_reducible apply_assumption; done) | (simp (maxDischargeDepth := 5) [go_sem]; done) | (simp (maxDischargeDepth := 5) [go_sem, *]; done)); clear hq hg; refine kuse (b := w.heap.size) hk2 (by first | with_reducible assumption | (simp; done) | (simp; omega) | omega) ?_; intro hq hg; have hy : w.heap.size < w2.heap.size := kept_lt hk2 (by first | with_reducible assumption | (simp; done) | (simp; omega) | omega); have ff := (hq (0)).trans (show _ = some (.int .i64 0) by first | with_reducible assumption | (simp (maxDischargeDepth := 5) [go_sem]; done) | (simp (maxDischargeDepth := 5) [go_sem, *]; done)); have ff := (hq (1)).trans (show _ = some (.int .i64 0) by first | with_reducible assumption | (simp (maxDischargeDepth := 5) [go_sem]; done) | (simp (maxDischargeDepth := 5) [go_sem, *]; done)); have gg := fun o => (hg o).trans (show _ = false by first | (with_reducible apply_assumption; done) | (simp (maxDischargeDepth := 5) [go_sem]; done) | (simp (maxDischargeDepth := 5) [go_sem, *]; done)); clear hq hg))
          all_goals (try go_wp2_with fail)
          go_region_held3 (fun W => W.cell? ⟨bB, k * 2, none⟩ = some (.int .i64 (wh y)) ∧ W.cell? ⟨bB, k * 2 + 1, none⟩ = some (.int .u64 (wl y)) ∧ W.cell? ⟨b1_1, 0, none⟩ = some (.int .i64 (wh G)) ∧ W.cell? ⟨b1_1, 1, none⟩ = some (.int .u64 (wl G))) (first | (go_keep; done) | (simp (maxDischargeDepth := 9) [*, World.cell?_alloc_some, World.cell?_setCell_far]; done) | (simp (maxDischargeDepth := 9) [go_sem, *]; done)) (first | (go_at_call 88; with_reducible refine (rcmp_pos y G cgt _).mono ?_; rintro e w3 ⟨rfl, hk3⟩; refine kuse (b := bB) hk3 (by first | with_reducible assumption | (simp; done) | (simp; omega) | omega) ?_; intro hq hg; have hy : bB < w3.heap.size := kept_lt hk3 (by first | with_reducible assumption | (simp; done) | (simp; omega) | omega); have ff := (hq (k * 2)).trans (show _ = some (.int .i64 (wh y)) by first | with_reducible assumption | (simp (maxDischargeDepth := 5) [go_sem]; done) | (simp (maxDischargeDepth := 5) [go_sem, *]; done)); have ff := (hq (k * 2 + 1)).trans (show _ = some (.int .u64 (wl y)) by first | with_reducible assumption | (simp (maxDischargeDepth := 5) [go_sem]; done) | (simp (maxDischargeDepth := 5) [go_sem, *]; done)); have gg := fun o => (hg o).trans (show _ = false by first | (with_reducible apply_assumption; done) | (simp (maxDischargeDepth := 5) [go_sem]; done) | (simp (maxDischargeDepth := 5) [go_sem, *]; done)); clear hq hg; refine kuse (b := b1_1) hk3 (by first | with_reducible assumption | (simp; done) | (simp; omega) | omega) ?_; intro hq hg; have hy : b1_1 < w3.heap.size := kept_lt hk3 (by first | with_reducible assumption | (simp; done) | (simp; omega) | omega); have ff := (hq (0)).trans (show _ = some (.int .i64 (wh G)) by first | with_reducible assumption | (simp (maxDischargeDepth := 5) [go_sem]; done) | (simp (maxDischargeDepth := 5) [go_sem, *]; done)); have ff := (hq (1)).trans (show _ = some (.int .u64 (wl G)) by first | with_reducible assumption | (simp (maxDischargeDepth := 5) [go_sem]; done) | (simp (maxDischargeDepth := 5) [go_sem, *]; done)); have gg := fun o => (hg o).trans (show _ = false by first | (with_reducible apply_assumption; done) | (simp (maxDischargeDepth := 5) [go_sem]; done) | (simp (maxDischargeDepth := 5) [go_sem, *]; done)); clear hq hg))
          all_goals (try go_wp2_with fail)
          exact ⟨⟨k + 1, by go_num, by omega, Lib.hid (by rw [Q1.out]; exact (by repeat (first | with_reducible exact HO0.out | with_reducible refine own_s2 (u0 := .int .i64 (wh L)) (u1 := .int .u64 (wl L)) ?_ | with_reducible refine OwnB.setOther ?_ (by first | with_reducible assumption | omega) | with_reducible refine OwnB.drew ?_ | with_reducible refine OwnB.drewN ?_ _ | with_reducible refine OwnB.kept (by with_reducible assumption) ?_))), Lib.hid (by rw [Q2.out]; exact (by repeat (first | with_reducible exact HO1.out | with_reducible refine own_s2 (u0 := .int .i64 (wh G)) (u1 := .int .u64 (wl G)) ?_ | with_reducible refine OwnB.setOther ?_ (by first | with_reducible assumption | omega) | with_reducible refine OwnB.drew ?_ | with_reducible refine OwnB.drewN ?_ _ | with_reducible refine OwnB.kept (by with_reducible assumption) ?_))), Lib.hid (by repeat (first | with_reducible exact HO2.out | with_reducible refine OwnB.setOther ?_ (by first | with_reducible assumption | omega) | with_reducible refine OwnB.drew ?_ | with_reducible refine OwnB.drewN ?_ _ | with_reducible refine OwnB.kept (by with_reducible assumption) ?_)), Lib.hid (by repeat (first | with_reducible exact Kept.refl _ | with_reducible assumption | with_reducible refine Kept.setCell ?_ (by first | (simp; done) | (simp; omega) | omega) _ | with_reducible refine Kept.alloc ?_ _ | with_reducible refine Kept.drewN ?_ _ | with_reducible refine Kept.drew ?_ | with_reducible refine Kept.trans ?_ (by with_reducible assumption) | with_reducible refine Kept.dr ?_ (by with_reducible assumption)))⟩, by simp [intOf]; omega⟩
        · have cgt' : B k ≤ mxR B k := by omega
          clear cgt
          have cgt := cgt'
          clear cgt'
          obtain ⟨a0, a1, a2, a3⟩ := SW.at_ HSA HW'.out k hlt
          obtain ⟨d0, d1, d2, d3⟩ := SW.at_ HSB HW'.out k hlt
          have q1 : mnR A (k + 1) = min (mnR A k) (A k) := rfl
          have q2 : mxR B (k + 1) = max (mxR B k) (B k) := rfl
          have Q1 := Lib.hid (show mnR A (k + 1) = A k by rw [q1]; omega)
          have Q2 := Lib.hid (show mxR B (k + 1) = mxR B k by rw [q2]; omega)
          clear q1 q2
          obtain ⟨x, hx⟩ : ∃ x, A k = x := ⟨_, rfl⟩
          obtain ⟨y, hy⟩ : ∃ x, B k = x := ⟨_, rfl⟩
          rw [hx] at a0 a1 clt
          try rw [hx] at Q1
          rw [hy] at d0 d1 cgt
          try rw [hy] at Q2
          clear hx hy
          obtain ⟨L, hL⟩ : ∃ x, mnR A k = x := ⟨_, rfl⟩
          obtain ⟨G, hG⟩ : ∃ x, mxR B k = x := ⟨_, rfl⟩
          rw [hL] at HO0 clt
          try rw [hL] at Q1
          rw [hG] at HO1 cgt
          try rw [hG] at Q2
          clear hL hG
          have kb : (k : Int) < n := by omega
          have hkk := HK.out
          have hsz := hkk.size
          have hww := HW'.out
          clear HW HK
          have s1 := HSA.out.sz
          have s2 := HSB.out.sz
          have n1 : ¬ bA = b1_0 := by omega
          have n2 : ¬ bA = b1_1 := by omega
          have n3 : ¬ bB = b1_0 := by omega
          have n4 : ¬ bB = b1_1 := by omega
          have n5 : ¬ b1_0 = b1_1 := fun e => ne1_1_0 e.symm
          have n6 : ¬ w.heap.size = b1_0 := by omega
          have n7 : ¬ w.heap.size = b1_1 := by omega
          have n8 : w.heap.size ≤ b1_0 := by omega
          have n9 : w.heap.size ≤ b1_1 := by omega
          clear s1 s2
          obtain ⟨hz_c9_0, hg_c9_0, hf_c9_0_0, hf_c9_0_1, _⟩ := HO0.out
          obtain ⟨hz_c9_1, hg_c9_1, hf_c9_1_0, hf_c9_1_1, _⟩ := HO1.out
          obtain ⟨hz_c9_2, hg_c9_2, hf_c9_2_0, hf_c9_2_1, _⟩ := HO2.out
          go_wp2_with fail
          go_region_held3 (fun W => W.cell? ⟨bA, k * 2, none⟩ = some (.int .i64 (wh x)) ∧ W.cell? ⟨bA, k * 2 + 1, none⟩ = some (.int .u64 (wl x)) ∧ W.cell? ⟨b1_0, 0, none⟩ = some (.int .i64 (wh L)) ∧ W.cell? ⟨b1_0, 1, none⟩ = some (.int .u64 (wl L))) (first | (go_keep; done) | (simp (maxDischargeDepth := 9) [*, World.cell?_alloc_some, World.cell?_setCell_far]; done) | (simp (maxDischargeDepth := 9) [go_sem, *]; done)) (first | (go_at_call 88; with_reducible refine (rcmp_neg x L clt _).mono ?_; rintro e w2 ⟨rfl, hk2⟩; refine kuse (b := bA) hk2 (by first | with_reducible assumption | (simp; done) | (simp; omega) | omega) ?_; intro hq hg; have hy : bA < w2.heap.size := kept_lt hk2 (by first | with_reducible assumption | (simp; done) | (simp; omega) | omega); have ff := (hq (k * 2)).trans (show _ = some (.int .i64 (wh x)) by first | with_reducible assumption | (simp (maxDischargeDepth := 5) [go_sem]; done) | (simp (maxDischargeDepth := 5) [go_sem, *]; done)); have ff := (hq (k * 2 + 1)).trans (show _ = some (.int .u64 (wl x)) by first | with_reducible assumption | (simp (maxDischargeDepth := 5) [go_sem]; done) | (simp (maxDischargeDepth := 5) [go_sem, *]; done)); have gg := fun o => (hg o).trans (show _ = false by first | (with_reducible apply_assumption; done) | (simp (maxDischargeDepth := 5) [go_sem]; done) | (simp (maxDischargeDepth := 5) [go_sem, *]; done)); clear hq hg; refine kuse (b := bB) hk2 (by first | with_reducible assumption | (simp; done) | (simp; omega) | omega) ?_; intro hq hg; have hy : bB < w2.heap.size := kept_lt hk2 (by first | with_reducible assumption | (simp; done) | (simp; omega) | omega); have ff := (hq (k * 2)).trans (show _ = some (.int .i64 (wh y)) by first | with_reducible assumption | (simp (maxDischargeDepth := 5) [go_sem]; done) | (simp (maxDischargeDepth := 5) [go_sem, *]; done)); have ff := (hq (k * 2 + 1)).trans (show _ = some (.int .u64 (wl y)) by first | with_reducible assumption | (simp (maxDischargeDepth := 5) [go_sem]; done) | (simp (maxDischargeDepth := 5) [go_sem, *]; done)); have gg := fun o => (hg o).trans (show _ = false by first | (with_reducible apply_assumption; done) | (simp (maxDischargeDepth := 5) [go_sem]; done) | (simp (maxDischargeDepth := 5) [go_sem, *]; done)); clear hq hg; refine kuse (b := b1_0) hk2 (by first | with_reducible assumption | (simp; done) | (simp; omega) | omega) ?_; intro hq hg; have hy : b1_0 < w2.heap.size := kept_lt hk2 (by first | with_reducible assumption | (simp; done) | (simp; omega) | omega); have ff := (hq (0)).trans (show _ = some (.int .i64 (wh L)) by first | with_reducible assumption | (simp (maxDischargeDepth := 5) [go_sem]; done) | (simp (maxDischargeDepth := 5) [go_sem, *]; done)); have ff := (hq (1)).trans (show _ = some (.int .u64 (wl L)) by first | with_reducible assumption | (simp (maxDischargeDepth := 5) [go_sem]; done) | (simp (maxDischargeDepth := 5) [go_sem, *]; done)); have gg := fun o => (hg o).trans (show _ = false by first | (with_reducible apply_assumption; done) | (simp (maxDischargeDepth := 5) [go_sem]; done) | (simp (maxDischargeDepth := 5) [go_sem, *]; done)); clear hq hg; refine kuse (b := b1_1) hk2 (by first | with_reducible assumption | (simp; done) | (simp; omega) | omega) ?_; intro hq hg; have hy : b1_1 < w2.heap.size := kept_lt hk2 (by first | with_reducible assumption | (simp; done) | (simp; omega) | omega); have ff := (hq (0)).trans (show _ = some (.int .i64 (wh G)) by first | with_reducible assumption | (simp (maxDischargeDepth := 5) [go_sem]; done) | (simp (maxDischargeDepth := 5) [go_sem, *]; done)); have ff := (hq (1)).trans (show _ = some (.int .u64 (wl G)) by first | with_reducible assumption | (simp (maxDischargeDepth := 5) [go_sem]; done) | (simp (maxDischargeDepth := 5) [go_sem, *]; done)); have gg := fun o => (hg o).trans (show _ = false by first | (with_reducible apply_assumption; done) | (simp (maxDischargeDepth := 5) [go_sem]; done) | (simp (maxDischargeDepth := 5) [go_sem, *]; done)); clear hq hg; refine kuse (b := w.heap.size) hk2 (by first | with_reducible assumption | (simp; done) | (simp; omega) | omega) ?_; intro hq hg; have hy : w.heap.size < w2.heap.size := kept_lt hk2 (by first | with_reducible assumption | (simp; done) | (simp; omega) | omega); have ff := (hq (0)).trans (show _ = some (.int .i64 0) by first | with_reducible assumption | (simp (maxDischargeDepth := 5) [go_sem]; done) | (simp (maxDischargeDepth := 5) [go_sem, *]; done)); have ff := (hq (1)).trans (show _ = some (.int .i64 0) by first | with_reducible assumption | (simp (maxDischargeDepth := 5) [go_sem]; done) | (simp (maxDischargeDepth := 5) [go_sem, *]; done)); have gg := fun o => (hg o).trans (show _ = false by first | (with_reducible apply_assumption; done) | (simp (maxDischargeDepth := 5) [go_sem]; done) | (simp (maxDischargeDepth := 5) [go_sem, *]; done)); clear hq hg))
          all_goals (try go_wp2_with fail)
          go_region_held3 (fun W => W.cell? ⟨bB, k * 2, none⟩ = some (.int .i64 (wh y)) ∧ W.cell? ⟨bB, k * 2 + 1, none⟩ = some (.int .u64 (wl y)) ∧ W.cell? ⟨b1_1, 0, none⟩ = some (.int .i64 (wh G)) ∧ W.cell? ⟨b1_1, 1, none⟩ = some (.int .u64 (wl G))) (first | (go_keep; done) | (simp (maxDischargeDepth := 9) [*, World.cell?_alloc_some, World.cell?_setCell_far]; done) | (simp (maxDischargeDepth := 9) [go_sem, *]; done)) (first | (go_at_call 88; with_reducible refine (rcmp_le y G cgt _).mono ?_; rintro e w3 ⟨r_3, ⟨q_30, q_31⟩, rfl, hk3⟩; refine kuse (b := bB) hk3 (by first | with_reducible assumption | (simp; done) | (simp; omega) | omega) ?_; intro hq hg; have hy : bB < w3.heap.size := kept_lt hk3 (by first | with_reducible assumption | (simp; done) | (simp; omega) | omega); have ff := (hq (k * 2)).trans (show _ = some (.int .i64 (wh y)) by first | with_reducible assumption | (simp (maxDischargeDepth := 5) [go_sem]; done) | (simp (maxDischargeDepth := 5) [go_sem, *]; done)); have ff := (hq (k * 2 + 1)).trans (show _ = some (.int .u64 (wl y)) by first | with_reducible assumption | (simp (maxDischargeDepth := 5) [go_sem]; done) | (simp (maxDischargeDepth := 5) [go_sem, *]; done)); have gg := fun o => (hg o).trans (show _ = false by first | (with_reducible apply_assumption; done) | (simp (maxDischargeDepth := 5) [go_sem]; done) | (simp (maxDischargeDepth := 5) [go_sem, *]; done)); clear hq hg; refine kuse (b := b1_1) hk3 (by first | with_reducible assumption | (simp; done) | (simp; omega) | omega) ?_; intro hq hg; have hy : b1_1 < w3.heap.size := kept_lt hk3 (by first | with_reducible assumption | (simp; done) | (simp; omega) | omega); have ff := (hq (0)).trans (show _ = some (.int .i64 (wh G)) by first | with_reducible assumption | (simp (maxDischargeDepth := 5) [go_sem]; done) | (simp (maxDischargeDepth := 5) [go_sem, *]; done)); have ff := (hq (1)).trans (show _ = some (.int .u64 (wl G)) by first | with_reducible assumption | (simp (maxDischargeDepth := 5) [go_sem]; done) | (simp (maxDischargeDepth := 5) [go_sem, *]; done)); have gg := fun o => (hg o).trans (show _ = false by first | (with_reducible apply_assumption; done) | (simp (maxDischargeDepth := 5) [go_sem]; done) | (simp (maxDischargeDepth := 5) [go_sem, *]; done)); clear hq hg))
          all_goals (try go_wp2_with fail)
          exact ⟨⟨k + 1, by go_num, by omega, Lib.hid (by rw [Q1.out]; exact (by repeat (first | with_reducible exact HO0.out | with_reducible refine own_s2 (u0 := .int .i64 (wh L)) (u1 := .int .u64 (wl L)) ?_ | with_reducible refine OwnB.setOther ?_ (by first | with_reducible assumption | omega) | with_reducible refine OwnB.drew ?_ | with_reducible refine OwnB.drewN ?_ _ | with_reducible refine OwnB.kept (by with_reducible assumption) ?_))), Lib.hid (by rw [Q2.out]; exact (by repeat (first | with_reducible exact HO1.out | with_reducible refine OwnB.setOther ?_ (by first | with_reducible assumption | omega) | with_reducible refine OwnB.drew ?_ | with_reducible refine OwnB.drewN ?_ _ | with_reducible refine OwnB.kept (by with_reducible assumption) ?_))), Lib.hid (by repeat (first | with_reducible exact HO2.out | with_reducible refine OwnB.setOther ?_ (by first | with_reducible assumption | omega) | with_reducible refine OwnB.drew ?_ | with_reducible refine OwnB.drewN ?_ _ | with_reducible refine OwnB.kept (by with_reducible assumption) ?_)), Lib.hid (by repeat (first | with_reducible exact Kept.refl _ | with_reducible assumption | with_reducible refine Kept.setCell ?_ (by first | (simp; done) | (simp; omega) | omega) _ | with_reducible refine Kept.alloc ?_ _ | with_reducible refine Kept.drewN ?_ _ | with_reducible refine Kept.drew ?_ | with_reducible refine Kept.trans ?_ (by with_reducible assumption) | with_reducible refine Kept.dr ?_ (by with_reducible assumption)))⟩, by simp [intOf]; omega⟩
      · have clt' : mnR A k ≤ A k := by omega
        clear clt
        have clt := clt'
        clear clt'
        by_cases cgt : mxR B k < B k
        · obtain ⟨a0, a1, a2, a3⟩ := SW.at_ HSA HW'.out k hlt
          obtain ⟨d0, d1, d2, d3⟩ := SW.at_ HSB HW'.out k hlt
          have q1 : mnR A (k + 1) = min (mnR A k) (A k) := rfl
          have q2 : mxR B (k + 1) = max (mxR B k) (B k) := rfl
          have Q1 := Lib.hid (show mnR A (k + 1) = mnR A k by rw [q1]; omega)
          have Q2 := Lib.hid (show mxR B (k + 1) = B k by rw [q2]; omega)
          clear q1 q2
          obtain ⟨x, hx⟩ : ∃ x, A k = x := ⟨_, rfl⟩
          obtain ⟨y, hy⟩ : ∃ x, B k = x := ⟨_, rfl⟩
          rw [hx] at a0 a1 clt
          try rw [hx] at Q1
          rw [hy] at d0 d1 cgt
          try rw [hy] at Q2
          clear hx hy
          obtain ⟨L, hL⟩ : ∃ x, mnR A k = x := ⟨_, rfl⟩
          obtain ⟨G, hG⟩ : ∃ x, mxR B k = x := ⟨_, rfl⟩
          rw [hL] at HO0 clt
          try rw [hL] at Q1
          rw [hG] at HO1 cgt
          try rw [hG] at Q2
          clear hL hG
          have kb : (k : Int) < n := by omega
          have hkk := HK.out
          have hsz := hkk.size
          have hww := HW'.out
          clear HW HK
          have s1 := HSA.out.sz
          have s2 := HSB.out.sz
          have n1 : ¬ bA = b1_0 := by omega
          have n2 : ¬ bA = b1_1 := by omega
          have n3 : ¬ bB = b1_0 := by omega
          have n4 : ¬ bB = b1_1 := by omega
          have n5 : ¬ b1_0 = b1_1 := fun e => ne1_1_0 e.symm
          have n6 : ¬ w.heap.size = b1_0 := by omega
          have n7 : ¬ w.heap.size = b1_1 := by omega
          have n8 : w.heap.size ≤ b1_0 := by omega
          have n9 : w.heap.size ≤ b1_1 := by omega
          clear s1 s2
          obtain ⟨hz_c9_0, hg_c9_0, hf_c9_0_0, hf_c9_0_1, _⟩ := HO0.out
          obtain ⟨hz_c9_1, hg_c9_1, hf_c9_1_0, hf_c9_1_1, _⟩ := HO1.out
          obtain ⟨hz_c9_2, hg_c9_2, hf_c9_2_0, hf_c9_2_1, _⟩ := HO2.out
          go_wp2_with fail
          go_region_held3 (fun W => W.cell? ⟨bA, k * 2, none⟩ = some (.int .i64 (wh x)) ∧ W.cell? ⟨bA, k * 2 + 1, none⟩ = some (.int .u64 (wl x)) ∧ W.cell? ⟨b1_0, 0, none⟩ = some (.int .i64 (wh L)) ∧ W.cell? ⟨b1_0, 1, none⟩ = some (.int .u64 (wl L))) (first | (go_keep; done) | (simp (maxDischargeDepth := 9) [*, World.cell?_alloc_some, World.cell?_setCell_far]; done) | (simp (maxDischargeDepth := 9) [go_sem, *]; done)) (first | (go_at_call 88; with_reducible refine (rcmp_ge x L clt _).mono ?_; rintro e w2 ⟨r_2, ⟨q_20, q_21⟩, rfl, hk2⟩; refine kuse (b := bA) hk2 (by first | with_reducible assumption | (simp; done) | (simp; omega) | omega) ?_; intro hq hg; have hy : bA < w2.heap.size := kept_lt hk2 (by first | with_reducible assumption | (simp; done) | (simp; omega) | omega); have ff := (hq (k * 2)).trans (show _ = some (.int .i64 (wh x)) by first | with_reducible assumption | (simp (maxDischargeDepth := 5) [go_sem]; done) | (simp (maxDischargeDepth := 5) [go_sem, *]; done)); have ff := (hq (k * 2 + 1)).trans (show _ = some (.int .u64 (wl x)) by first | with_reducible assumption | (simp (maxDischargeDepth := 5) [go_sem]; done) | (simp (maxDischargeDepth := 5) [go_sem, *]; done)); have gg := fun o => (hg o).trans (show _ = false by first | (with_reducible apply_assumption; done) | (simp (maxDischargeDepth := 5) [go_sem]; done) | (simp (maxDischargeDepth := 5) [go_sem, *]; done)); clear hq hg; refine kuse (b := bB) hk2 (by first | with_reducible assumption | (simp; done) | (simp; omega) | omega) ?_; intro hq hg; have hy : bB < w2.heap.size := kept_lt hk2 (by first | with_reducible assumption | (simp; done) | (simp; omega) | omega); have ff := (hq (k * 2)).trans (show _ = some (.int .i64 (wh y)) by first | with_reducible assumption | (simp (maxDischargeDepth := 5) [go_sem]; done) | (simp (maxDischargeDepth := 5) [go_sem, *]; done)); have ff := (hq (k * 2 + 1)).trans (show _ = some (.int .u64 (wl y)) by first | with_reducible assumption | (simp (maxDischargeDepth := 5) [go_sem]; done) | (simp (maxDischargeDepth := 5) [go_sem, *]; done)); have gg := fun o => (hg o).trans (show _ = false by first | (with_reducible apply_assumption; done) | (simp (maxDischargeDepth := 5) [go_sem]; done) | (simp (maxDischargeDepth := 5) [go_sem, *]; done)); clear hq hg; refine kuse (b := b1_0) hk2 (by first | with_reducible assumption | (simp; done) | (simp; omega) | omega) ?_; intro hq hg; have hy : b1_0 < w2.heap.size := kept_lt hk2 (by first | with_reducible assumption | (simp; done) | (simp; omega) | omega); have ff := (hq (0)).trans (show _ = some (.int .i64 (wh L)) by first | with_reducible assumption | (simp (maxDischargeDepth := 5) [go_sem]; done) | (simp (maxDischargeDepth := 5) [go_sem, *]; done)); have ff := (hq (1)).trans (show _ = some (.int .u64 (wl L)) by first | with_reducible assumption | (simp (maxDischargeDepth := 5) [go_sem]; done) | (simp (maxDischargeDepth := 5) [go_sem, *]; done)); have gg := fun o => (hg o).trans (show _ = false by first | (with_reducible apply_assumption; done) | (simp (maxDischargeDepth := 5) [go_sem]; done) | (simp (maxDischargeDepth := 5) [go_sem, *]; done)); clear hq hg; refine kuse (b := b1_1) hk2 (by first | with_reducible assumption | (simp; done) | (simp; omega) | omega) ?_; intro hq hg; have hy : b1_1 < w2.heap.size := kept_lt hk2 (by first | with_reducible assumption | (simp; done) | (simp; omega) | omega); have ff := (hq (0)).trans (show _ = some (.int .i64 (wh G)) by first | with_reducible assumption | (simp (maxDischargeDepth := 5) [go_sem]; done) | (simp (maxDischargeDepth := 5) [go_sem, *]; done)); have ff := (hq (1)).trans (show _ = some (.int .u64 (wl G)) by first | with_reducible assumption | (simp (maxDischargeDepth := 5) [go_sem]; done) | (simp (maxDischargeDepth := 5) [go_sem, *]; done)); have gg := fun o => (hg o).trans (show _ = false by first | (with_reducible apply_assumption; done) | (simp (maxDischargeDepth := 5) [go_sem]; done) | (simp (maxDischargeDepth := 5) [go_sem, *]; done)); clear hq hg; refine kuse (b := w.heap.size) hk2 (by first | with_reducible assumption | (simp; done) | (simp; omega) | omega) ?_; intro hq hg; have hy : w.heap.size < w2.heap.size := kept_lt hk2 (by first | with_reducible assumption | (simp; done) | (simp; omega) | omega); have ff := (hq (0)).trans (show _ = some (.int .i64 0) by first | with_reducible assumption | (simp (maxDischargeDepth := 5) [go_sem]; done) | (simp (maxDischargeDepth := 5) [go_sem, *]; done)); have ff := (hq (1)).trans (show _ = some (.int .i64 0) by first | with_reducible assumption | (simp (maxDischargeDepth := 5) [go_sem]; done) | (simp (maxDischargeDepth := 5) [go_sem, *]; done)); have gg := fun o => (hg o).trans (show _ = false by first | (with_reducible apply_assumption; done) | (simp (maxDischargeDepth := 5) [go_sem]; done) | (simp (maxDischargeDepth := 5) [go_sem, *]; done)); clear hq hg))
          all_goals (try go_wp2_with fail)
          go_region_held3 (fun W => W.cell? ⟨bB, k * 2, none⟩ = some (.int .i64 (wh y)) ∧ W.cell? ⟨bB, k * 2 + 1, none⟩ = some (.int .u64 (wl y)) ∧ W.cell? ⟨b1_1, 0, none⟩ = some (.int .i64 (wh G)) ∧ W.cell? ⟨b1_1, 1, none⟩ = some (.int .u64 (wl G))) (first | (go_keep; done) | (simp (maxDischargeDepth := 9) [*, World.cell?_alloc_some, World.cell?_setCell_far]; done) | (simp (maxDischargeDepth := 9) [go_sem, *]; done)) (first | (go_at_call 88; with_reducible refine (rcmp_pos y G cgt _).mono ?_; rintro e w3 ⟨rfl, hk3⟩; refine kuse (b := bB) hk3 (by first | with_reducible assumption | (simp; done) | (simp; omega) | omega) ?_; intro hq hg; have hy : bB < w3.heap.size := kept_lt hk3 (by first | with_reducible assumption | (simp; done) | (simp; omega) | omega); have ff := (hq (k * 2)).trans (show _ = some (.int .i64 (wh y)) by first | with_reducible assumption | (simp (maxDischargeDepth := 5) [go_sem]; done) | (simp (maxDischargeDepth := 5) [go_sem, *]; done)); have ff := (hq (k * 2 + 1)).trans (show _ = some (.int .u64 (wl y)) by first | with_reducible assumption | (simp (maxDischargeDepth := 5) [go_sem]; done) | (simp (maxDischargeDepth := 5) [go_sem, *]; done)); have gg := fun o => (hg o).trans (show _ = false by first | (with_reducible apply_assumption; done) | (simp (maxDischargeDepth := 5) [go_sem]; done) | (simp (maxDischargeDepth := 5) [go_sem, *]; done)); clear hq hg; refine kuse (b := b1_1) hk3 (by first | with_reducible assumption | (simp; done) | (simp; omega) | omega) ?_; intro hq hg; have hy : b1_1 < w3.heap.size := kept_lt hk3 (by first | with_reducible assumption | (simp; done) | (simp; omega) | omega); have ff := (hq (0)).trans (show _ = some (.int .i64 (wh G)) by first | with_reducible assumption | (simp (maxDischargeDepth := 5) [go_sem]; done) | (simp (maxDischargeDepth := 5) [go_sem, *]; done)); have ff := (hq (1)).trans (show _ = some (.int .u64 (wl G)) by first | with_reducible assumption | (simp (maxDischargeDepth := 5) [go_sem]; done) | (simp (maxDischargeDepth := 5) [go_sem, *]; done)); have gg := fun o => (hg o).trans (show _ = false by first | (with_reducible apply_assumption; done) | (simp (maxDischargeDepth := 5) [go_sem]; done) | (simp (maxDischargeDepth := 5) [go_sem, *]; done)); clear hq hg))
          all_goals (try go_wp2_with fail)
          exact ⟨⟨k + 1, by go_num, by omega, Lib.hid (by rw [Q1.out]; exact (by repeat (first | with_reducible exact HO0.out | with_reducible refine OwnB.setOther ?_ (by first | with_reducible assumption | omega) | with_reducible refine OwnB.drew ?_ | with_reducible refine OwnB.drewN ?_ _ | with_reducible refine OwnB.kept (by with_reducible assumption) ?_))), Lib.hid (by rw [Q2.out]; exact (by repeat (first | with_reducible exact HO1.out | with_reducible refine own_s2 (u0 := .int .i64 (wh G)) (u1 := .int .u64 (wl G)) ?_ | with_reducible refine OwnB.setOther ?_ (by first | with_reducible assumption | omega) | with_reducible refine OwnB.drew ?_ | with_reducible refine OwnB.drewN ?_ _ | with_reducible refine OwnB.kept (by with_reducible assumption) ?_))), Lib.hid (by repeat (first | with_reducible exact HO2.out | with_reducible refine OwnB.setOther ?_ (by first | with_reducible assumption | omega) | with_reducible refine OwnB.drew ?_ | with_reducible refine OwnB.drewN ?_ _ | with_reducible refine OwnB.kept (by with_reducible assumption) ?_)), Lib.hid (by repeat (first | with_reducible exact Kept.refl _ | with_reducible assumption | with_reducible refine Kept.setCell ?_ (by first | (simp; done) | (simp; omega) | omega) _ | with_reducible refine Kept.alloc ?_ _ | with_reducible refine Kept.drewN ?_ _ | with_reducible refine Kept.drew ?_ | with_reducible refine Kept.trans ?_ (by with_reducible assumption) | with_reducible refine Kept.dr ?_ (by with_reducible assumption)))⟩, by simp [intOf]; omega⟩
        · have cgt' : B k ≤ mxR B k := by omega
          clear cgt
          have cgt := cgt'
          clear cgt'
          obtain ⟨a0, a1, a2, a3⟩ := SW.at_ HSA HW'.out k hlt
          obtain ⟨d0, d1, d2, d3⟩ := SW.at_ HSB HW'.out k hlt
          have q1 : mnR A (k + 1) = min (mnR A k) (A k) := rfl
          have q2 : mxR B (k + 1) = max (mxR B k) (B k) := rfl
          have Q1 := Lib.hid (show mnR A (k + 1) = mnR A k by rw [q1]; omega)
          have Q2 := Lib.hid (show mxR B (k + 1) = mxR B k by rw [q2]; omega)
          clear q1 q2
          obtain ⟨x, hx⟩ : ∃ x, A k = x := ⟨_, rfl⟩
          obtain ⟨y, hy⟩ : ∃ x, B k = x := ⟨_, rfl⟩
          rw [hx] at a0 a1 clt
          try rw [hx] at Q1
          rw [hy] at d0 d1 cgt
          try rw [hy] at Q2
          clear hx hy
          obtain ⟨L, hL⟩ : ∃ x, mnR A k = x := ⟨_, rfl⟩
          obtain ⟨G, hG⟩ : ∃ x, mxR B k = x := ⟨_, rfl⟩
          rw [hL] at HO0 clt
          try rw [hL] at Q1
          rw [hG] at HO1 cgt
          try rw [hG] at Q2
          clear hL hG
          have kb : (k : Int) < n := by omega
          have hkk := HK.out
          have hsz := hkk.size
          have hww := HW'.out
          clear HW HK
          have s1 := HSA.out.sz
          have s2 := HSB.out.sz
          have n1 : ¬ bA = b1_0 := by omega
          have n2 : ¬ bA = b1_1 := by omega
          have n3 : ¬ bB = b1_0 := by omega
          have n4 : ¬ bB = b1_1 := by omega
          have n5 : ¬ b1_0 = b1_1 := fun e => ne1_1_0 e.symm
          have n6 : ¬ w.heap.size = b1_0 := by omega
          have n7 : ¬ w.heap.size = b1_1 := by omega
          have n8 : w.heap.size ≤ b1_0 := by omega
          have n9 : w.heap.size ≤ b1_1 := by omega
          clear s1 s2
          obtain ⟨hz_c9_0, hg_c9_0, hf_c9_0_0, hf_c9_0_1, _⟩ := HO0.out
          obtain ⟨hz_c9_1, hg_c9_1, hf_c9_1_0, hf_c9_1_1, _⟩ := HO1.out
          obtain ⟨hz_c9_2, hg_c9_2, hf_c9_2_0, hf_c9_2_1, _⟩ := HO2.out
          go_wp2_with fail
          go_region_held3 (fun W => W.cell? ⟨bA, k * 2, none⟩ = some (.int .i64 (wh x)) ∧ W.cell? ⟨bA, k * 2 + 1, none⟩ = some (.int .u64 (wl x)) ∧ W.cell? ⟨b1_0, 0, none⟩ = some (.int .i64 (wh L)) ∧ W.cell? ⟨b1_0, 1, none⟩ = some (.int .u64 (wl L))) (first | (go_keep; done) | (simp (maxDischargeDepth := 9) [*, World.cell?_alloc_some, World.cell?_setCell_far]; done) | (simp (maxDischargeDepth := 9) [go_sem, *]; done)) (first | (go_at_call 88; with_reducible refine (rcmp_ge x L clt _).mono ?_; rintro e w2 ⟨r_2, ⟨q_20, q_21⟩, rfl, hk2⟩; refine kuse (b := bA) hk2 (by first | with_reducible assumption | (simp; done) | (simp; omega) | omega) ?_; intro hq hg; have hy : bA < w2.heap.size := kept_lt hk2 (by first | with_reducible assumption | (simp; done) | (simp; omega) | omega); have ff := (hq (k * 2)).trans (show _ = some (.int .i64 (wh x)) by first | with_reducible assumption | (simp (maxDischargeDepth := 5) [go_sem]; done) | (simp (maxDischargeDepth := 5) [go_sem, *]; done)); have ff := (hq (k * 2 + 1)).trans (show _ = some (.int .u64 (wl x)) by first | with_reducible assumption | (simp (maxDischargeDepth := 5) [go_sem]; done) | (simp (maxDischargeDepth := 5) [go_sem, *]; done)); have gg := fun o => (hg o).trans (show _ = false by first | (with_reducible apply_assumption; done) | (simp (maxDischargeDepth := 5) [go_sem]; done) | (simp (maxDischargeDepth := 5) [go_sem, *]; done)); clear hq hg; refine kuse (b := bB) hk2 (by first | with_reducible assumption | (simp; done) | (simp; omega) | omega) ?_; intro hq hg; have hy : bB < w2.heap.size := kept_lt hk2 (by first | with_reducible assumption | (simp; done) | (simp; omega) | omega); have ff := (hq (k * 2)).trans (show _ = some (.int .i64 (wh y)) by first | with_reducible assumption | (simp (maxDischargeDepth := 5) [go_sem]; done) | (simp (maxDischargeDepth := 5) [go_sem, *]; done)); have ff := (hq (k * 2 + 1)).trans (show _ = some (.int .u64 (wl y)) by first | with_reducible assumption | (simp (maxDischargeDepth := 5) [go_sem]; done) | (simp (maxDischargeDepth := 5) [go_sem, *]; done)); have gg := fun o => (hg o).trans (show _ = false by first | (with_reducible apply_assumption; done) | (simp (maxDischargeDepth := 5) [go_sem]; done) | (simp (maxDischargeDepth := 5) [go_sem, *]; done)); clear hq hg; refine kuse (b := b1_0) hk2 (by first | with_reducible assumption | (simp; done) | (simp; omega) | omega) ?_; intro hq hg; have hy : b1_0 < w2.heap.size := kept_lt hk2 (by first | with_reducible assumption | (simp; done) | (simp; omega) | omega); have ff := (hq (0)).trans (show _ = some (.int .i64 (wh L)) by first | with_reducible assumption | (simp (maxDischargeDepth := 5) [go_sem]; done) | (simp (maxDischargeDepth := 5) [go_sem, *]; done)); have ff := (hq (1)).trans (show _ = some (.int .u64 (wl L)) by first | with_reducible assumption | (simp (maxDischargeDepth := 5) [go_sem]; done) | (simp (maxDischargeDepth := 5) [go_sem, *]; done)); have gg := fun o => (hg o).trans (show _ = false by first | (with_reducible apply_assumption; done) | (simp (maxDischargeDepth := 5) [go_sem]; done) | (simp (maxDischargeDepth := 5) [go_sem, *]; done)); clear hq hg; refine kuse (b := b1_1) hk2 (by first | with_reducible assumption | (simp; done) | (simp; omega) | omega) ?_; intro hq hg; have hy : b1_1 < w2.heap.size := kept_lt hk2 (by first | with_reducible assumption | (simp; done) | (simp; omega) | omega); have ff := (hq (0)).trans (show _ = some (.int .i64 (wh G)) by first | with_reducible assumption | (simp (maxDischargeDepth := 5) [go_sem]; done) | (simp (maxDischargeDepth := 5) [go_sem, *]; done)); have ff := (hq (1)).trans (show _ = some (.int .u64 (wl G)) by first | with_reducible assumption | (simp (maxDischargeDepth := 5) [go_sem]; done) | (simp (maxDischargeDepth := 5) [go_sem, *]; done)); have gg := fun o => (hg o).trans (show _ = false by first | (with_reducible apply_assumption; done) | (simp (maxDischargeDepth := 5) [go_sem]; done) | (simp (maxDischargeDepth := 5) [go_sem, *]; done)); clear hq hg; refine kuse (b := w.heap.size) hk2 (by first | with_reducible assumption | (simp; done) | (simp; omega) | omega) ?_; intro hq hg; have hy : w.heap.size < w2.heap.size := kept_lt hk2 (by first | with_reducible assumption | (simp; done) | (simp; omega) | omega); have ff := (hq (0)).trans (show _ = some (.int .i64 0) by first | with_reducible assumption | (simp (maxDischargeDepth := 5) [go_sem]; done) | (simp (maxDischargeDepth := 5) [go_sem, *]; done)); have ff := (hq (1)).trans (show _ = some (.int .i64 0) by first | with_reducible assumption | (simp (maxDischargeDepth := 5) [go_sem]; done) | (simp (maxDischargeDepth := 5) [go_sem, *]; done)); have gg := fun o => (hg o).trans (show _ = false by first | (with_reducible apply_assumption; done) | (simp (maxDischargeDepth := 5) [go_sem]; done) | (simp (maxDischargeDepth := 5) [go_sem, *]; done)); clear hq hg))
          all_goals (try go_wp2_with fail)
          go_region_held3 (fun W => W.cell? ⟨bB, k * 2, none⟩ = some (.int .i64 (wh y)) ∧ W.cell? ⟨bB, k * 2 + 1, none⟩ = some (.int .u64 (wl y)) ∧ W.cell? ⟨b1_1, 0, none⟩ = some (.int .i64 (wh G)) ∧ W.cell? ⟨b1_1, 1, none⟩ = some (.int .u64 (wl G))) (first | (go_keep; done) | (simp (maxDischargeDepth := 9) [*, World.cell?_alloc_some, World.cell?_setCell_far]; done) | (simp (maxDischargeDepth := 9) [go_sem, *]; done)) (first | (go_at_call 88; with_reducible refine (rcmp_le y G cgt _).mono ?_; rintro e w3 ⟨r_3, ⟨q_30, q_31⟩, rfl, hk3⟩; refine kuse (b := bB) hk3 (by first | with_reducible assumption | (simp; done) | (simp; omega) | omega) ?_; intro hq hg; have hy : bB < w3.heap.size := kept_lt hk3 (by first | with_reducible assumption | (simp; done) | (simp; omega) | omega); have ff := (hq (k * 2)).trans (show _ = some (.int .i64 (wh y)) by first | with_reducible assumption | (simp (maxDischargeDepth := 5) [go_sem]; done) | (simp (maxDischargeDepth := 5) [go_sem, *]; done)); have ff := (hq (k * 2 + 1)).trans (show _ = some (.int .u64 (wl y)) by first | with_reducible assumption | (simp (maxDischargeDepth := 5) [go_sem]; done) | (simp (maxDischargeDepth := 5) [go_sem, *]; done)); have gg := fun o => (hg o).trans (show _ = false by first | (with_reducible apply_assumption; done) | (simp (maxDischargeDepth := 5) [go_sem]; done) | (simp (maxDischargeDepth := 5) [go_sem, *]; done)); clear hq hg; refine kuse (b := b1_1) hk3 (by first | with_reducible assumption | (simp; done) | (simp; omega) | omega) ?_; intro hq hg; have hy : b1_1 < w3.heap.size := kept_lt hk3 (by first | with_reducible assumption | (simp; done) | (simp; omega) | omega); have ff := (hq (0)).trans (show _ = some (.int .i64 (wh G)) by first | with_reducible assumption | (simp (maxDischargeDepth := 5) [go_sem]; done) | (simp (maxDischargeDepth := 5) [go_sem, *]; done)); have ff := (hq (1)).trans (show _ = some (.int .u64 (wl G)) by first | with_reducible assumption | (simp (maxDischargeDepth := 5) [go_sem]; done) | (simp (maxDischargeDepth := 5) [go_sem, *]; done)); have gg := fun o => (hg o).trans (show _ = false by first | (with_reducible apply_assumption; done) | (simp (maxDischargeDepth := 5) [go_sem]; done) | (simp (maxDischargeDepth := 5) [go_sem, *]; done)); clear hq hg))
          all_goals (try go_wp2_with fail)
          exact ⟨⟨k + 1, by go_num, by omega, Lib.hid (by rw [Q1.out]; exact (by repeat (first | with_reducible exact HO0.out | with_reducible refine OwnB.setOther ?_ (by first | with_reducible assumption | omega) | with_reducible refine OwnB.drew ?_ | with_reducible refine OwnB.drewN ?_ _ | with_reducible refine OwnB.kept (by with_reducible assumption) ?_))), Lib.hid (by rw [Q2.out]; exact (by repeat (first | with_reducible exact HO1.out | with_reducible refine OwnB.setOther ?_ (by first | with_reducible assumption | omega) | with_reducible refine OwnB.drew ?_ | with_reducible refine OwnB.drewN ?_ _ | with_reducible refine OwnB.kept (by with_reducible assumption) ?_))), Lib.hid (by repeat (first | with_reducible exact HO2.out | with_reducible refine OwnB.setOther ?_ (by first | with_reducible assumption | omega) | with_reducible refine OwnB.drew ?_ | with_reducible refine OwnB.drewN ?_ _ | with_reducible refine OwnB.kept (by with_reducible assumption) ?_)), Lib.hid (by repeat (first | with_reducible exact Kept.refl _ | with_reducible assumption | with_reducible refine Kept.setCell ?_ (by first | (simp; done) | (simp; omega) | omega) _ | with_reducible refine Kept.alloc ?_ _ | with_reducible refine Kept.drewN ?_ _ | with_reducible refine Kept.drew ?_ | with_reducible refine Kept.trans ?_ (by with_reducible assumption) | with_reducible refine Kept.dr ?_ (by with_reducible assumption)))⟩, by simp [intOf]; omega⟩
    · obtain rfl : k = n := by omega
      rw [hl.out] at HO0
      rw [hg.out] at HO1
      have hww := HW'.out
      clear HW HK HSA HSB hl hg
      obtain ⟨hz_c9_0, hg_c9_0, hf_c9_0_0, hf_c9_0_1, _⟩ := HO0.out
      obtain ⟨hz_c9_1, hg_c9_1, hf_c9_1_0, hf_c9_1_1, _⟩ := HO1.out
      obtain ⟨hz_c9_2, hg_c9_2, hf_c9_2_0, hf_c9_2_1, _⟩ := HO2.out
      go_wp2_with fail
      with_reducible refine (ref_int_ok l (⟨by omega, by omega⟩) _).mono ?_
      rintro e w6 ⟨rfl, hk6⟩
      refine kuz (b := b1_0) hk6 (by first | (simp; done) | (simp; omega) | omega) ?_
      intro ha hb hz6_0 hn6_0 hm6_0
      have hf6_0_0 : w6.cell? ⟨b1_0, 0, none⟩ = some (.int .i64 (wh (l))) := (ha _).trans (by first | with_reducible assumption | (simp (maxDischargeDepth := 7) [go_sem]; done) | (simp (maxDischargeDepth := 7) [go_sem, *]; done))
      have hf6_0_1 : w6.cell? ⟨b1_0, 1, none⟩ = some (.int .u64 (wl (l))) := (ha _).trans (by first | with_reducible assumption | (simp (maxDischargeDepth := 7) [go_sem]; done) | (simp (maxDischargeDepth := 7) [go_sem, *]; done))
      try have hg6_0 : ∀ o, w6.frozen? ⟨b1_0, o, none⟩ = false := by intro o; rw [hb]; first | (simp (maxDischargeDepth := 7) [go_sem]; done) | (simp (maxDischargeDepth := 7) [go_sem, *]; done)
      clear ha hb
      refine kuz (b := b1_1) hk6 (by first | (simp; done) | (simp; omega) | omega) ?_
      intro ha hb hz6_1 hn6_1 hm6_1
      have hf6_1_0 : w6.cell? ⟨b1_1, 0, none⟩ = some (.int .i64 (wh (g))) := (ha _).trans (by first | with_reducible assumption | (simp (maxDischargeDepth := 7) [go_sem]; done) | (simp (maxDischargeDepth := 7) [go_sem, *]; done))
      have hf6_1_1 : w6.cell? ⟨b1_1, 1, none⟩ = some (.int .u64 (wl (g))) := (ha _).trans (by first | with_reducible assumption | (simp (maxDischargeDepth := 7) [go_sem]; done) | (simp (maxDischargeDepth := 7) [go_sem, *]; done))
      try have hg6_1 : ∀ o, w6.frozen? ⟨b1_1, o, none⟩ = false := by intro o; rw [hb]; first | (simp (maxDischargeDepth := 7) [go_sem]; done) | (simp (maxDischargeDepth := 7) [go_sem, *]; done)
      clear ha hb
      refine kuz (b := w.heap.size) hk6 (by first | (simp; done) | (simp; omega) | omega) ?_
      intro ha hb hz6_2 hn6_2 hm6_2
      have hf6_2_0 : w6.cell? ⟨w.heap.size, 0, none⟩ = some (.int .i64 0) := (ha _).trans (by first | with_reducible assumption | (simp (maxDischargeDepth := 7) [go_sem]; done) | (simp (maxDischargeDepth := 7) [go_sem, *]; done))
      have hf6_2_1 : w6.cell? ⟨w.heap.size, 1, none⟩ = some (.int .i64 0) := (ha _).trans (by first | with_reducible assumption | (simp (maxDischargeDepth := 7) [go_sem]; done) | (simp (maxDischargeDepth := 7) [go_sem, *]; done))
      try have hg6_2 : ∀ o, w6.frozen? ⟨w.heap.size, o, none⟩ = false := by intro o; rw [hb]; first | (simp (maxDischargeDepth := 7) [go_sem]; done) | (simp (maxDischargeDepth := 7) [go_sem, *]; done)
      clear ha hb
      try clear hf_c9_0_0
      try clear hf_c9_0_1
      try clear hf_c9_1_0
      try clear hf_c9_1_1
      try clear hf_c9_2_0
      try clear hf_c9_2_1
      try clear hg_c9_0
      try clear hg_c9_1
      try clear hg_c9_2
      go_wp2_with fail
      with_reducible refine (ref_int_ok g (⟨by omega, by omega⟩) _).mono ?_
      rintro e w7 ⟨rfl, hk7⟩
      refine kuz (b := b1_0) hk7 (by first | (simp; done) | (simp; omega) | omega) ?_
      intro ha hb hz7_0 hn7_0 hm7_0
      have hf7_0_0 : w7.cell? ⟨b1_0, 0, none⟩ = some (.int .i64 (wh (l))) := (ha _).trans (by first | with_reducible assumption | (simp (maxDischargeDepth := 7) [go_sem]; done) | (simp (maxDischargeDepth := 7) [go_sem, *]; done))
      have hf7_0_1 : w7.cell? ⟨b1_0, 1, none⟩ = some (.int .u64 (wl (l))) := (ha _).trans (by first | with_reducible assumption | (simp (maxDischargeDepth := 7) [go_sem]; done) | (simp (maxDischargeDepth := 7) [go_sem, *]; done))
      try have hg7_0 : ∀ o, w7.frozen? ⟨b1_0, o, none⟩ = false := by intro o; rw [hb]; first | (simp (maxDischargeDepth := 7) [go_sem]; done) | (simp (maxDischargeDepth := 7) [go_sem, *]; done)
      clear ha hb
      refine kuz (b := b1_1) hk7 (by first | (simp; done) | (simp; omega) | omega) ?_
      intro ha hb hz7_1 hn7_1 hm7_1
      have hf7_1_0 : w7.cell? ⟨b1_1, 0, none⟩ = some (.int .i64 (wh (g))) := (ha _).trans (by first | with_reducible assumption | (simp (maxDischargeDepth := 7) [go_sem]; done) | (simp (maxDischargeDepth := 7) [go_sem, *]; done))
      have hf7_1_1 : w7.cell? ⟨b1_1, 1, none⟩ = some (.int .u64 (wl (g))) := (ha _).trans (by first | with_reducible assumption | (simp (maxDischargeDepth := 7) [go_sem]; done) | (simp (maxDischargeDepth := 7) [go_sem, *]; done))
      try have hg7_1 : ∀ o, w7.frozen? ⟨b1_1, o, none⟩ = false := by intro o; rw [hb]; first | (simp (maxDischargeDepth := 7) [go_sem]; done) | (simp (maxDischargeDepth := 7) [go_sem, *]; done)
      clear ha hb
      refine kuz (b := w.heap.size) hk7 (by first | (simp; done) | (simp; omega) | omega) ?_
      intro ha hb hz7_2 hn7_2 hm7_2
      have hf7_2_0 : w7.cell? ⟨w.heap.size, 0, none⟩ = some (.int .i64 0) := (ha _).trans (by first | with_reducible assumption | (simp (maxDischargeDepth := 7) [go_sem]; done) | (simp (maxDischargeDepth := 7) [go_sem, *]; done))
      have hf7_2_1 : w7.cell? ⟨w.heap.size, 1, none⟩ = some (.int .i64 0) := (ha _).trans (by first | with_reducible assumption | (simp (maxDischargeDepth := 7) [go_sem]; done) | (simp (maxDischargeDepth := 7) [go_sem, *]; done))
      try have hg7_2 : ∀ o, w7.frozen? ⟨w.heap.size, o, none⟩ = false := by intro o; rw [hb]; first | (simp (maxDischargeDepth := 7) [go_sem]; done) | (simp (maxDischargeDepth := 7) [go_sem, *]; done)
      clear ha hb
      try clear hf6_0_0
      try clear hf6_0_1
      try clear hf6_1_0
      try clear hf6_1_1
      try clear hf6_2_0
      try clear hf6_2_1
      try clear hg6_0
      try clear hg6_1
      try clear hg6_2
      try clear hz6_1
      try clear hz6_2
      go_wp2_with fail
      with_reducible refine (ref_valid_ok l g (by omega) (by omega) (by omega) _).mono ?_
      rintro e w8 ⟨rfl, hk8⟩
      refine kuz (b := b1_0) hk8 (by first | (simp; done) | (simp; omega) | omega) ?_
      intro ha hb hz8_0 hn8_0 hm8_0
      have hf8_0_0 : w8.cell? ⟨b1_0, 0, none⟩ = some (.int .i64 (wh (l))) := (ha _).trans (by first | with_reducible assumption | (simp (maxDischargeDepth := 7) [go_sem]; done) | (simp (maxDischargeDepth := 7) [go_sem, *]; done))
      have hf8_0_1 : w8.cell? ⟨b1_0, 1, none⟩ = some (.int .u64 (wl (l))) := (ha _).trans (by first | with_reducible assumption | (simp (maxDischargeDepth := 7) [go_sem]; done) | (simp (maxDischargeDepth := 7) [go_sem, *]; done))
      try have hg8_0 : ∀ o, w8.frozen? ⟨b1_0, o, none⟩ = false := by intro o; rw [hb]; first | (simp (maxDischargeDepth := 7) [go_sem]; done) | (simp (maxDischargeDepth := 7) [go_sem, *]; done)
      clear ha hb
      refine kuz (b := b1_1) hk8 (by first | (simp; done) | (simp; omega) | omega) ?_
      intro ha hb hz8_1 hn8_1 hm8_1
      have hf8_1_0 : w8.cell? ⟨b1_1, 0, none⟩ = some (.int .i64 (wh (g))) := (ha _).trans (by first | with_reducible assumption | (simp (maxDischargeDepth := 7) [go_sem]; done) | (simp (maxDischargeDepth := 7) [go_sem, *]; done))
      have hf8_1_1 : w8.cell? ⟨b1_1, 1, none⟩ = some (.int .u64 (wl (g))) := (ha _).trans (by first | with_reducible assumption | (simp (maxDischargeDepth := 7) [go_sem]; done) | (simp (maxDischargeDepth := 7) [go_sem, *]; done))
      try have hg8_1 : ∀ o, w8.frozen? ⟨b1_1, o, none⟩ = false := by intro o; rw [hb]; first | (simp (maxDischargeDepth := 7) [go_sem]; done) | (simp (maxDischargeDepth := 7) [go_sem, *]; done)
      clear ha hb
      refine kuz (b := w.heap.size) hk8 (by first | (simp; done) | (simp; omega) | omega) ?_
      intro ha hb hz8_2 hn8_2 hm8_2
      have hf8_2_0 : w8.cell? ⟨w.heap.size, 0, none⟩ = some (.int .i64 0) := (ha _).trans (by first | with_reducible assumption | (simp (maxDischargeDepth := 7) [go_sem]; done) | (simp (maxDischargeDepth := 7) [go_sem, *]; done))
      have hf8_2_1 : w8.cell? ⟨w.heap.size, 1, none⟩ = some (.int .i64 0) := (ha _).trans (by first | with_reducible assumption | (simp (maxDischargeDepth := 7) [go_sem]; done) | (simp (maxDischargeDepth := 7) [go_sem, *]; done))
      try have hg8_2 : ∀ o, w8.frozen? ⟨w.heap.size, o, none⟩ = false := by intro o; rw [hb]; first | (simp (maxDischargeDepth := 7) [go_sem]; done) | (simp (maxDischargeDepth := 7) [go_sem, *]; done)
      clear ha hb
      refine kuz (b := w7.heap.size) hk8 (by first | (simp; done) | (simp; omega) | omega) ?_
      intro ha hb hz8_3 hn8_3 hm8_3
      have hf8_3_0 : w8.cell? ⟨w7.heap.size, 0, none⟩ = some (.int .i64 l) := (ha _).trans (by first | with_reducible assumption | (simp (maxDischargeDepth := 7) [go_sem]; done) | (simp (maxDischargeDepth := 7) [go_sem, *]; done))
      have hf8_3_1 : w8.cell? ⟨w7.heap.size, 1, none⟩ = some (.int .i64 g) := (ha _).trans (by first | with_reducible assumption | (simp (maxDischargeDepth := 7) [go_sem]; done) | (simp (maxDischargeDepth := 7) [go_sem, *]; done))
      try have hg8_3 : ∀ o, w8.frozen? ⟨w7.heap.size, o, none⟩ = false := by intro o; rw [hb]; first | (simp (maxDischargeDepth := 7) [go_sem]; done) | (simp (maxDischargeDepth := 7) [go_sem, *]; done)
      clear ha hb
      try clear hf7_0_0
      try clear hf7_0_1
      try clear hf7_1_0
      try clear hf7_1_1
      try clear hf7_2_0
      try clear hf7_2_1
      try clear hg7_0
      try clear hg7_1
      try clear hg7_2
      try clear hz7_1
      try clear hz7_2
      go_wp2_with fail
      all_goals exact bodyPost_ret (v := .tuple #[.agg #[.int .i64 l, .int .i64 g], .int .i64 0]) (by first | (simp [results, Try.results78, go_sem]; done) | (simp (maxDischargeDepth := 7) [results, Try.results78, go_sem, *]; done)) rfl ⟨rfl, (by repeat (first | with_reducible exact Kept.refl _ | with_reducible assumption | with_reducible refine Kept.setCell ?_ (by first | (simp; done) | (simp; omega) | omega) _ | with_reducible refine Kept.alloc ?_ _ | with_reducible refine Kept.drewN ?_ _ | with_reducible refine Kept.drew ?_ | with_reducible refine Kept.trans ?_ (by with_reducible assumption) | with_reducible refine Kept.dr ?_ (by with_reducible assumption)))⟩
set_option maxHeartbeats 4000000 in
set_option maxRecDepth 100000 in
theorem ref_made_bad (n bA cA bB cB : Nat) (A B : Nat → Int) (hn : 0 < n) (hm : n ≤ 1000) (l g : Int) (hl : Hid (mnR A n = l)) (hg : Hid (mxR B n = g)) (kb : l < -4611686018427387904 ∨ 4611686018427387904 < g ∨ g < l) (w : World) (hA : SW w bA n A) (hB : SW w bB n B) : Calls Try.prog 78 #[.slice (some ⟨bA, 0, none⟩) n cA, .slice (some ⟨bB, 0, none⟩) n cB] w fun e w' => e = .returned (.tuple #[.agg #[.int .i64 0, .int .i64 0], .int .i64 2]) ∧ Kept w w' := by
  have HSA := Lib.hid hA
  have HSB := Lib.hid hB
  obtain ⟨hf_c0_0_0, hf_c0_0_1, hg_c0_0, hz_c0_0⟩ := SW.at_ HSA (Kept.refl w) 0 hn
  obtain ⟨hf_c0_1_0, hf_c0_1_1, hg_c0_1, hz_c0_1⟩ := SW.at_ HSB (Kept.refl w) 0 hn
  clear hA hB
  simp only [Nat.zero_mul, Nat.zero_add] at hf_c0_0_0 hf_c0_0_1 hf_c0_1_0 hf_c0_1_1
  obtain ⟨A0, hA0⟩ : ∃ x, A 0 = x := ⟨_, rfl⟩
  obtain ⟨B0, hB0⟩ : ∃ x, B 0 = x := ⟨_, rfl⟩
  rw [hA0] at hf_c0_0_0 hf_c0_0_1
  rw [hB0] at hf_c0_1_0 hf_c0_1_1
  have HA0 := Lib.hid hA0
  have HB0 := Lib.hid hB0
  clear hA0 hB0
  have HN := Lib.hid hn
  have nn : ¬ n = 0 := by omega
  go_enter Try.func78, Try.ntmps78
  have B0 : OwnB (w.alloc (.cells #[.int .i64 0, .int .i64 0] 23)) (bA) [.int .i64 (wh (A0)), .int .u64 (wl (A0))] := OwnB.alloc (show OwnB w (bA) [.int .i64 (wh (A0)), .int .u64 (wl (A0))] from ⟨hz_c0_0, hg_c0_0, hf_c0_0_0, hf_c0_0_1, trivial⟩) _
  have HB0_0 := Lib.hid B0
  clear B0
  have B1 : OwnB (w.alloc (.cells #[.int .i64 0, .int .i64 0] 23)) (bB) [.int .i64 (wh (B0)), .int .u64 (wl (B0))] := OwnB.alloc (show OwnB w (bB) [.int .i64 (wh (B0)), .int .u64 (wl (B0))] from ⟨hz_c0_1, hg_c0_1, hf_c0_1_0, hf_c0_1_1, trivial⟩) _
  have HB0_1 := Lib.hid B1
  clear B1
  have B2 : OwnB (w.alloc (.cells #[.int .i64 0, .int .i64 0] 23)) (w.heap.size) [.int .i64 0, .int .i64 0] := own_alloc _ [.int .i64 0, .int .i64 0] 23
  have HB0_2 := Lib.hid B2
  clear B2
  go_upto_region 1 with (fail)
  go_cut [6, 7] (fun p0 p1 wx => ∃ b0 b1 : Nat, p0 = .pointer (some ⟨b0, 0, none⟩) ∧ p1 = .pointer (some ⟨b1, 0, none⟩) ∧ w.heap.size < b0 ∧ w.heap.size < b1 ∧ b1 ≠ b0 ∧ OwnB wx (b0) [.int .i64 (wh (A0)), .int .u64 (wl (A0))] ∧ OwnB wx (b1) [.int .i64 (wh (B0)), .int .u64 (wl (B0))] ∧ OwnB wx (bA) [.int .i64 (wh (A0)), .int .u64 (wl (A0))] ∧ OwnB wx (bB) [.int .i64 (wh (B0)), .int .u64 (wl (B0))] ∧ OwnB wx (w.heap.size) [.int .i64 0, .int .i64 0] ∧ Kept (w.alloc (.cells #[.int .i64 0, .int .i64 0] 23)) wx)
  case first =>
    go_region_held3 (fun W => W.cell? ⟨bA, 0, none⟩ = some (.int .i64 (wh (A0))) ∧ W.cell? ⟨bA, 1, none⟩ = some (.int .u64 (wl (A0))) ∧ W.cell? ⟨bB, 0, none⟩ = some (.int .i64 (wh (B0))) ∧ W.cell? ⟨bB, 1, none⟩ = some (.int .u64 (wl (B0)))) (first | (go_keep; done) | (simp (maxDischargeDepth := 9) [*, World.cell?_alloc_some, World.cell?_setCell_far]; done) | (simp (maxDischargeDepth := 9) [go_sem, *]; done)) (first | (fail))
    all_goals (try go_wp2_with fail)
    all_goals (go_meet; case rel => refine (fun (hkx : Kept (w.alloc (.cells #[.int .i64 0, .int .i64 0] 23)) _) => ⟨_, _, rfl, rfl, (by first | with_reducible assumption | omega | (simp; omega)), (by first | with_reducible assumption | omega | (simp; omega)), (by first | with_reducible assumption | omega | (simp; omega)), (by repeat (first | with_reducible exact own_alloc _ [.int .i64 (wh (A0)), .int .u64 (wl (A0))] 45 | with_reducible exact own_alloc _ [.int .i64 0, .int .u64 0] 45 | ((with_reducible refine own_allocE _ [.int .i64 (wh (A0)), .int .u64 (wl (A0))] 45 _ ?_); (simp; done)) | ((with_reducible refine own_allocE _ [.int .i64 0, .int .u64 0] 45 _ ?_); (simp; done)) | with_reducible refine own_set2 (us := [.int .i64 0, .int .u64 0]) ?_ rfl | with_reducible refine OwnB.other2 ?_ (by first | with_reducible assumption | omega | (simp; done) | (simp; omega)) | with_reducible refine OwnB.alloc ?_ _ | with_reducible refine OwnB.drew ?_ | with_reducible refine OwnB.drewN ?_ _ | with_reducible refine OwnB.kept (by with_reducible assumption) ?_)), (by repeat (first | with_reducible exact own_alloc _ [.int .i64 (wh (B0)), .int .u64 (wl (B0))] 45 | with_reducible exact own_alloc _ [.int .i64 0, .int .u64 0] 45 | ((with_reducible refine own_allocE _ [.int .i64 (wh (B0)), .int .u64 (wl (B0))] 45 _ ?_); (simp; done)) | ((with_reducible refine own_allocE _ [.int .i64 0, .int .u64 0] 45 _ ?_); (simp; done)) | with_reducible refine own_set2 (us := [.int .i64 0, .int .u64 0]) ?_ rfl | with_reducible refine OwnB.other2 ?_ (by first | with_reducible assumption | omega | (simp; done) | (simp; omega)) | with_reducible refine OwnB.alloc ?_ _ | with_reducible refine OwnB.drew ?_ | with_reducible refine OwnB.drewN ?_ _ | with_reducible refine OwnB.kept (by with_reducible assumption) ?_)), OwnB.kept hkx HB0_0.out, OwnB.kept hkx HB0_1.out, OwnB.kept hkx HB0_2.out, hkx⟩) ?_; exact (by repeat (first | with_reducible exact Kept.refl _ | with_reducible assumption | with_reducible refine Kept.set12 ?_ (by first | with_reducible assumption | omega | (simp; done) | (simp; omega)) | with_reducible refine Kept.set11 ?_ (by first | with_reducible assumption | omega | (simp; done) | (simp; omega)) | with_reducible refine Kept.set10 ?_ (by first | with_reducible assumption | omega | (simp; done) | (simp; omega)) | with_reducible refine Kept.set9 ?_ (by first | with_reducible assumption | omega | (simp; done) | (simp; omega)) | with_reducible refine Kept.set8 ?_ (by first | with_reducible assumption | omega | (simp; done) | (simp; omega)) | with_reducible refine Kept.set7 ?_ (by first | with_reducible assumption | omega | (simp; done) | (simp; omega)) | with_reducible refine Kept.set6 ?_ (by first | with_reducible assumption | omega | (simp; done) | (simp; omega)) | with_reducible refine Kept.set5 ?_ (by first | with_reducible assumption | omega | (simp; done) | (simp; omega)) | with_reducible refine Kept.set4 ?_ (by first | with_reducible assumption | omega | (simp; done) | (simp; omega)) | with_reducible refine Kept.set3 ?_ (by first | with_reducible assumption | omega | (simp; done) | (simp; omega)) | with_reducible refine Kept.set2 ?_ (by first | with_reducible assumption | omega | (simp; done) | (simp; omega)) | with_reducible refine Kept.setCell ?_ (by first | with_reducible assumption | omega | (simp; done) | (simp; omega)) _ | with_reducible refine Kept.alloc ?_ _ | with_reducible refine Kept.drewN ?_ _ | with_reducible refine Kept.drew ?_ | with_reducible refine Kept.trans ?_ (by with_reducible assumption) | with_reducible refine Kept.dr ?_ (by with_reducible assumption))))
  case rest =>
  obtain ⟨b1_0, b1_1, rfl, rfl, lt1_0, lt1_1, ne1_1_0, O1_0, O1_1, O1_2, O1_3, O1_4, hkc1⟩ := hcut
  obtain ⟨hz_c1_0, hg_c1_0, hf_c1_0_0, hf_c1_0_1, _⟩ := O1_0
  obtain ⟨hz_c1_1, hg_c1_1, hf_c1_1_0, hf_c1_1_1, _⟩ := O1_1
  obtain ⟨hz_c1_2, hg_c1_2, hf_c1_2_0, hf_c1_2_1, _⟩ := O1_2
  obtain ⟨hz_c1_3, hg_c1_3, hf_c1_3_0, hf_c1_3_1, _⟩ := O1_3
  obtain ⟨hz_c1_4, hg_c1_4, hf_c1_4_0, hf_c1_4_1, _⟩ := O1_4
  go_wp2_with fail
  have hkcw : Kept w wc := Kept.trans ((Kept.refl w).alloc _) hkc1
  go_loopw [22] (fun i wr => ∃ k : Nat, i = .int .i64 k ∧ k ≤ n ∧ Hid (OwnB wr (b1_0) [.int .i64 (wh (mnR A k)), .int .u64 (wl (mnR A k))]) ∧ Hid (OwnB wr (b1_1) [.int .i64 (wh (mxR B k)), .int .u64 (wl (mxR B k))]) ∧ Hid (OwnB wr (w.heap.size) [.int .i64 0, .int .i64 0]) ∧ Hid (Kept w wr)) (fun i _ => n - (intOf i).toNat)
  case atStart => exact ⟨0, rfl, Nat.zero_le _, Lib.hid (show OwnB wc (b1_0) [.int .i64 (wh (A 0)), .int .u64 (wl (A 0))] from HA0.out.symm ▸ (⟨hz_c1_0, hg_c1_0, hf_c1_0_0, hf_c1_0_1, trivial⟩ : OwnB wc (b1_0) [.int .i64 (wh (A0)), .int .u64 (wl (A0))])), Lib.hid (show OwnB wc (b1_1) [.int .i64 (wh (B 0)), .int .u64 (wl (B 0))] from HB0.out.symm ▸ (⟨hz_c1_1, hg_c1_1, hf_c1_1_0, hf_c1_1_1, trivial⟩ : OwnB wc (b1_1) [.int .i64 (wh (B0)), .int .u64 (wl (B0))])), Lib.hid ⟨hz_c1_4, hg_c1_4, hf_c1_4_0, hf_c1_4_1, trivial⟩, Lib.hid hkcw⟩
  case round =>
    obtain ⟨k, rfl, hk, HO0, HO1, HO2, HK⟩ := hrel
    have HW := HK
    have HW' := HK
    by_cases hlt : k < n
    · by_cases clt : A k < mnR A k
      · by_cases cgt : mxR B k < B k
        · obtain ⟨a0, a1, a2, a3⟩ := SW.at_ HSA HW'.out k hlt
          obtain ⟨d0, d1, d2, d3⟩ := SW.at_ HSB HW'.out k hlt
          have q1 : mnR A (k + 1) = min (mnR A k) (A k) := rfl
          have q2 : mxR B (k + 1) = max (mxR B k) (B k) := rfl
          have Q1 := Lib.hid (show mnR A (k + 1) = A k by rw [q1]; omega)
          have Q2 := Lib.hid (show mxR B (k + 1) = B k by rw [q2]; omega)
          clear q1 q2
          obtain ⟨x, hx⟩ : ∃ x, A k = x := ⟨_, rfl⟩
          obtain ⟨y, hy⟩ : ∃ x, B k = x := ⟨_, rfl⟩
          rw [hx] at a0 a1 clt
          try rw [hx] at Q1
          rw [hy] at d0 d1 cgt
          try rw [hy] at Q2
          clear hx hy
          obtain ⟨L, hL⟩ : ∃ x, mnR A k = x := ⟨_, rfl⟩
          obtain ⟨G, hG⟩ : ∃ x, mxR B k = x := ⟨_, rfl⟩
          rw [hL] at HO0 clt
          try rw [hL] at Q1
          rw [hG] at HO1 cgt
          try rw [hG] at Q2
          clear hL hG
          have kb : (k : Int) < n := by omega
          have hkk := HK.out
          have hsz := hkk.size
          have hww := HW'.out
          clear HW HK
          have s1 := HSA.out.sz
          have s2 := HSB.out.sz
          have n1 : ¬ bA = b1_0 := by omega
          have n2 : ¬ bA = b1_1 := by omega
          have n3 : ¬ bB = b1_0 := by omega
          have n4 : ¬ bB = b1_1 := by omega
          have n5 : ¬ b1_0 = b1_1 := fun e => ne1_1_0 e.symm
          have n6 : ¬ w.heap.size = b1_0 := by omega
          have n7 : ¬ w.heap.size = b1_1 := by omega
          have n8 : w.heap.size ≤ b1_0 := by omega
          have n9 : w.heap.size ≤ b1_1 := by omega
          clear s1 s2
          obtain ⟨hz_c9_0, hg_c9_0, hf_c9_0_0, hf_c9_0_1, _⟩ := HO0.out
          obtain ⟨hz_c9_1, hg_c9_1, hf_c9_1_0, hf_c9_1_1, _⟩ := HO1.out
          obtain ⟨hz_c9_2, hg_c9_2, hf_c9_2_0, hf_c9_2_1, _⟩ := HO2.out
          go_wp2_with fail
          go_region_held3 (fun W => W.cell? ⟨bA, k * 2, none⟩ = some (.int .i64 (wh x)) ∧ W.cell? ⟨bA, k * 2 + 1, none⟩ = some (.int .u64 (wl x)) ∧ W.cell? ⟨b1_0, 0, none⟩ = some (.int .i64 (wh L)) ∧ W.cell? ⟨b1_0, 1, none⟩ = some (.int .u64 (wl L))) (first | (go_keep; done) | (simp (maxDischargeDepth := 9) [*, World.cell?_alloc_some, World.cell?_setCell_far]; done) | (simp (maxDischargeDepth := 9) [go_sem, *]; done)) (first | (go_at_call 88; with_reducible refine (rcmp_neg x L clt _).mono ?_; rintro e w2 ⟨rfl, hk2⟩; refine kuse (b := bA) hk2 (by first | with_reducible assumption | (simp; done) | (simp; omega) | omega) ?_; intro hq hg; have hy : bA < w2.heap.size := kept_lt hk2 (by first | with_reducible assumption | (simp; done) | (simp; omega) | omega); have ff := (hq (k * 2)).trans (show _ = some (.int .i64 (wh x)) by first | with_reducible assumption | (simp (maxDischargeDepth := 5) [go_sem]; done) | (simp (maxDischargeDepth := 5) [go_sem, *]; done)); have ff := (hq (k * 2 + 1)).trans (show _ = some (.int .u64 (wl x)) by first | with_reducible assumption | (simp (maxDischargeDepth := 5) [go_sem]; done) | (simp (maxDischargeDepth := 5) [go_sem, *]; done)); have gg := fun o => (hg o).trans (show _ = false by first | (with_reducible apply_assumption; done) | (simp (maxDischargeDepth := 5) [go_sem]; done) | (simp (maxDischargeDepth := 5) [go_sem, *]; done)); clear hq hg; refine kuse (b := bB) hk2 (by first | with_reducible assumption | (simp; done) | (simp; omega) | omega) ?_; intro hq hg; have hy : bB < w2.heap.size := kept_lt hk2 (by first | with_reducible assumption | (simp; done) | (simp; omega) | omega); have ff := (hq (k * 2)).trans (show _ = some (.int .i64 (wh y)) by first | with_reducible assumption | (simp (maxDischargeDepth := 5) [go_sem]; done) | (simp (maxDischargeDepth := 5) [go_sem, *]; done)); have ff := (hq (k * 2 + 1)).trans (show _ = some (.int .u64 (wl y)) by first | with_reducible assumption | (simp (maxDischargeDepth := 5) [go_sem]; done) | (simp (maxDischargeDepth := 5) [go_sem, *]; done)); have gg := fun o => (hg o).trans (show _ = false by first | (with_reducible apply_assumption; done) | (simp (maxDischargeDepth := 5) [go_sem]; done) | (simp (maxDischargeDepth := 5) [go_sem, *]; done)); clear hq hg; refine kuse (b := b1_0) hk2 (by first | with_reducible assumption | (simp; done) | (simp; omega) | omega) ?_; intro hq hg; have hy : b1_0 < w2.heap.size := kept_lt hk2 (by first | with_reducible assumption | (simp; done) | (simp; omega) | omega); have ff := (hq (0)).trans (show _ = some (.int .i64 (wh L)) by first | with_reducible assumption | (simp (maxDischargeDepth := 5) [go_sem]; done) | (simp (maxDischargeDepth := 5) [go_sem, *]; done)); have ff := (hq (1)).trans (show _ = some (.int .u64 (wl L)) by first | with_reducible assumption | (simp (maxDischargeDepth := 5) [go_sem]; done) | (simp (maxDischargeDepth := 5) [go_sem, *]; done)); have gg := fun o => (hg o).trans (show _ = false by first | (with_reducible apply_assumption; done) | (simp (maxDischargeDepth := 5) [go_sem]; done) | (simp (maxDischargeDepth := 5) [go_sem, *]; done)); clear hq hg; refine kuse (b := b1_1) hk2 (by first | with_reducible assumption | (simp; done) | (simp; omega) | omega) ?_; intro hq hg; have hy : b1_1 < w2.heap.size := kept_lt hk2 (by first | with_reducible assumption | (simp; done) | (simp; omega) | omega); have ff := (hq (0)).trans (show _ = some (.int .i64 (wh G)) by first | with_reducible assumption | (simp (maxDischargeDepth := 5) [go_sem]; done) | (simp (maxDischargeDepth := 5) [go_sem, *]; done)); have ff := (hq (1)).trans (show _ = some (.int .u64 (wl G)) by first | with_reducible assumption | (simp (maxDischargeDepth := 5) [go_sem]; done) | (simp (maxDischargeDepth := 5) [go_sem, *]; done)); have gg := fun o => (hg o).trans (show _ = false by first | (with_reducible apply_assumption; done) | (simp (maxDischargeDepth := 5) [go_sem]; done) | (simp (maxDischargeDepth := 5) [go_sem, *]; done)); clear hq hg; refine kuse (b := w.heap.size) hk2 (by first | with_reducible assumption | (simp; done) | (simp; omega) | omega) ?_; intro hq hg; have hy : w.heap.size < w2.heap.size := kept_lt hk2 (by first | with_reducible assumption | (simp; done) | (simp; omega) | omega); have ff := (hq (0)).trans (show _ = some (.int .i64 0) by first | with_reducible assumption | (simp (maxDischargeDepth := 5) [go_sem]; done) | (simp (maxDischargeDepth := 5) [go_sem, *]; done)); have ff := (hq (1)).trans (show _ = some (.int .i64 0) by first | with_reducible assumption | (simp (maxDischargeDepth := 5) [go_sem]; done) | (simp (maxDischargeDepth := 5) [go_sem, *]; done)); have gg := fun o => (hg o).trans (show _ = false by first | (with_reducible apply_assumption; done) | (simp (maxDischargeDepth := 5) [go_sem]; done) | (simp (maxDischargeDepth := 5) [go_sem, *]; done)); clear hq hg))
          all_goals (try go_wp2_with fail)
          go_region_held3 (fun W => W.cell? ⟨bB, k * 2, none⟩ = some (.int .i64 (wh y)) ∧ W.cell? ⟨bB, k * 2 + 1, none⟩ = some (.int .u64 (wl y)) ∧ W.cell? ⟨b1_1, 0, none⟩ = some (.int .i64 (wh G)) ∧ W.cell? ⟨b1_1, 1, none⟩ = some (.int .u64 (wl G))) (first | (go_keep; done) | (simp (maxDischargeDepth := 9) [*, World.cell?_alloc_some, World.cell?_setCell_far]; done) | (simp (maxDischargeDepth := 9) [go_sem, *]; done)) (first | (go_at_call 88; with_reducible refine (rcmp_pos y G cgt _).mono ?_; rintro e w3 ⟨rfl, hk3⟩; refine kuse (b := bB) hk3 (by first | with_reducible assumption | (simp; done) | (simp; omega) | omega) ?_; intro hq hg; have hy : bB < w3.heap.size := kept_lt hk3 (by first | with_reducible assumption | (simp; done) | (simp; omega) | omega); have ff := (hq (k * 2)).trans (show _ = some (.int .i64 (wh y)) by first | with_reducible assumption | (simp (maxDischargeDepth := 5) [go_sem]; done) | (simp (maxDischargeDepth := 5) [go_sem, *]; done)); have ff := (hq (k * 2 + 1)).trans (show _ = some (.int .u64 (wl y)) by first | with_reducible assumption | (simp (maxDischargeDepth := 5) [go_sem]; done) | (simp (maxDischargeDepth := 5) [go_sem, *]; done)); have gg := fun o => (hg o).trans (show _ = false by first | (with_reducible apply_assumption; done) | (simp (maxDischargeDepth := 5) [go_sem]; done) | (simp (maxDischargeDepth := 5) [go_sem, *]; done)); clear hq hg; refine kuse (b := b1_1) hk3 (by first | with_reducible assumption | (simp; done) | (simp; omega) | omega) ?_; intro hq hg; have hy : b1_1 < w3.heap.size := kept_lt hk3 (by first | with_reducible assumption | (simp; done) | (simp; omega) | omega); have ff := (hq (0)).trans (show _ = some (.int .i64 (wh G)) by first | with_reducible assumption | (simp (maxDischargeDepth := 5) [go_sem]; done) | (simp (maxDischargeDepth := 5) [go_sem, *]; done)); have ff := (hq (1)).trans (show _ = some (.int .u64 (wl G)) by first | with_reducible assumption | (simp (maxDischargeDepth := 5) [go_sem]; done) | (simp (maxDischargeDepth := 5) [go_sem, *]; done)); have gg := fun o => (hg o).trans (show _ = false by first | (with_reducible apply_assumption; done) | (simp (maxDischargeDepth := 5) [go_sem]; done) | (simp (maxDischargeDepth := 5) [go_sem, *]; done)); clear hq hg))
          all_goals (try go_wp2_with fail)
          exact ⟨⟨k + 1, by go_num, by omega, Lib.hid (by rw [Q1.out]; exact (by repeat (first | with_reducible exact HO0.out | with_reducible refine own_s2 (u0 := .int .i64 (wh L)) (u1 := .int .u64 (wl L)) ?_ | with_reducible refine OwnB.setOther ?_ (by first | with_reducible assumption | omega) | with_reducible refine OwnB.drew ?_ | with_reducible refine OwnB.drewN ?_ _ | with_reducible refine OwnB.kept (by with_reducible assumption) ?_))), Lib.hid (by rw [Q2.out]; exact (by repeat (first | with_reducible exact HO1.out | with_reducible refine own_s2 (u0 := .int .i64 (wh G)) (u1 := .int .u64 (wl G)) ?_ | with_reducible refine OwnB.setOther ?_ (by first | with_reducible assumption | omega) | with_reducible refine OwnB.drew ?_ | with_reducible refine OwnB.drewN ?_ _ | with_reducible refine OwnB.kept (by with_reducible assumption) ?_))), Lib.hid (by repeat (first | with_reducible exact HO2.out | with_reducible refine OwnB.setOther ?_ (by first | with_reducible assumption | omega) | with_reducible refine OwnB.drew ?_ | with_reducible refine OwnB.drewN ?_ _ | with_reducible refine OwnB.kept (by with_reducible assumption) ?_)), Lib.hid (by repeat (first | with_reducible exact Kept.refl _ | with_reducible assumption | with_reducible refine Kept.setCell ?_ (by first | (simp; done) | (simp; omega) | omega) _ | with_reducible refine Kept.alloc ?_ _ | with_reducible refine Kept.drewN ?_ _ | with_reducible refine Kept.drew ?_ | with_reducible refine Kept.trans ?_ (by with_reducible assumption) | with_reducible refine Kept.dr ?_ (by with_reducible assumption)))⟩, by simp [intOf]; omega⟩
        · have cgt' : B k ≤ mxR B k := by omega
          clear cgt
          have cgt := cgt'
          clear cgt'
          obtain ⟨a0, a1, a2, a3⟩ := SW.at_ HSA HW'.out k hlt
          obtain ⟨d0, d1, d2, d3⟩ := SW.at_ HSB HW'.out k hlt
          have q1 : mnR A (k + 1) = min (mnR A k) (A k) := rfl
          have q2 : mxR B (k + 1) = max (mxR B k) (B k) := rfl
          have Q1 := Lib.hid (show mnR A (k + 1) = A k by rw [q1]; omega)
          have Q2 := Lib.hid (show mxR B (k + 1) = mxR B k by rw [q2]; omega)
          clear q1 q2
          obtain ⟨x, hx⟩ : ∃ x, A k = x := ⟨_, rfl⟩
          obtain ⟨y, hy⟩ : ∃ x, B k = x := ⟨_, rfl⟩
          rw [hx] at a0 a1 clt
          try rw [hx] at Q1
          rw [hy] at d0 d1 cgt
          try rw [hy] at Q2
          clear hx hy
          obtain ⟨L, hL⟩ : ∃ x, mnR A k = x := ⟨_, rfl⟩
          obtain ⟨G, hG⟩ : ∃ x, mxR B k = x := ⟨_, rfl⟩
          rw [hL] at HO0 clt
          try rw [hL] at Q1
          rw [hG] at HO1 cgt
          try rw [hG] at Q2
          clear hL hG
          have kb : (k : Int) < n := by omega
          have hkk := HK.out
          have hsz := hkk.size
          have hww := HW'.out
          clear HW HK
          have s1 := HSA.out.sz
          have s2 := HSB.out.sz
          have n1 : ¬ bA = b1_0 := by omega
          have n2 : ¬ bA = b1_1 := by omega
          have n3 : ¬ bB = b1_0 := by omega
          have n4 : ¬ bB = b1_1 := by omega
          have n5 : ¬ b1_0 = b1_1 := fun e => ne1_1_0 e.symm
          have n6 : ¬ w.heap.size = b1_0 := by omega
          have n7 : ¬ w.heap.size = b1_1 := by omega
          have n8 : w.heap.size ≤ b1_0 := by omega
          have n9 : w.heap.size ≤ b1_1 := by omega
          clear s1 s2
          obtain ⟨hz_c9_0, hg_c9_0, hf_c9_0_0, hf_c9_0_1, _⟩ := HO0.out
          obtain ⟨hz_c9_1, hg_c9_1, hf_c9_1_0, hf_c9_1_1, _⟩ := HO1.out
          obtain ⟨hz_c9_2, hg_c9_2, hf_c9_2_0, hf_c9_2_1, _⟩ := HO2.out
          go_wp2_with fail
          go_region_held3 (fun W => W.cell? ⟨bA, k * 2, none⟩ = some (.int .i64 (wh x)) ∧ W.cell? ⟨bA, k * 2 + 1, none⟩ = some (.int .u64 (wl x)) ∧ W.cell? ⟨b1_0, 0, none⟩ = some (.int .i64 (wh L)) ∧ W.cell? ⟨b1_0, 1, none⟩ = some (.int .u64 (wl L))) (first | (go_keep; done) | (simp (maxDischargeDepth := 9) [*, World.cell?_alloc_some, World.cell?_setCell_far]; done) | (simp (maxDischargeDepth := 9) [go_sem, *]; done)) (first | (go_at_call 88; with_reducible refine (rcmp_neg x L clt _).mono ?_; rintro e w2 ⟨rfl, hk2⟩; refine kuse (b := bA) hk2 (by first | with_reducible assumption | (simp; done) | (simp; omega) | omega) ?_; intro hq hg; have hy : bA < w2.heap.size := kept_lt hk2 (by first | with_reducible assumption | (simp; done) | (simp; omega) | omega); have ff := (hq (k * 2)).trans (show _ = some (.int .i64 (wh x)) by first | with_reducible assumption | (simp (maxDischargeDepth := 5) [go_sem]; done) | (simp (maxDischargeDepth := 5) [go_sem, *]; done)); have ff := (hq (k * 2 + 1)).trans (show _ = some (.int .u64 (wl x)) by first | with_reducible assumption | (simp (maxDischargeDepth := 5) [go_sem]; done) | (simp (maxDischargeDepth := 5) [go_sem, *]; done)); have gg := fun o => (hg o).trans (show _ = false by first | (with_reducible apply_assumption; done) | (simp (maxDischargeDepth := 5) [go_sem]; done) | (simp (maxDischargeDepth := 5) [go_sem, *]; done)); clear hq hg; refine kuse (b := bB) hk2 (by first | with_reducible assumption | (simp; done) | (simp; omega) | omega) ?_; intro hq hg; have hy : bB < w2.heap.size := kept_lt hk2 (by first | with_reducible assumption | (simp; done) | (simp; omega) | omega); have ff := (hq (k * 2)).trans (show _ = some (.int .i64 (wh y)) by first | with_reducible assumption | (simp (maxDischargeDepth := 5) [go_sem]; done) | (simp (maxDischargeDepth := 5) [go_sem, *]; done)); have ff := (hq (k * 2 + 1)).trans (show _ = some (.int .u64 (wl y)) by first | with_reducible assumption | (simp (maxDischargeDepth := 5) [go_sem]; done) | (simp (maxDischargeDepth := 5) [go_sem, *]; done)); have gg := fun o => (hg o).trans (show _ = false by first | (with_reducible apply_assumption; done) | (simp (maxDischargeDepth := 5) [go_sem]; done) | (simp (maxDischargeDepth := 5) [go_sem, *]; done)); clear hq hg; refine kuse (b := b1_0) hk2 (by first | with_reducible assumption | (simp; done) | (simp; omega) | omega) ?_; intro hq hg; have hy : b1_0 < w2.heap.size := kept_lt hk2 (by first | with_reducible assumption | (simp; done) | (simp; omega) | omega); have ff := (hq (0)).trans (show _ = some (.int .i64 (wh L)) by first | with_reducible assumption | (simp (maxDischargeDepth := 5) [go_sem]; done) | (simp (maxDischargeDepth := 5) [go_sem, *]; done)); have ff := (hq (1)).trans (show _ = some (.int .u64 (wl L)) by first | with_reducible assumption | (simp (maxDischargeDepth := 5) [go_sem]; done) | (simp (maxDischargeDepth := 5) [go_sem, *]; done)); have gg := fun o => (hg o).trans (show _ = false by first | (with_reducible apply_assumption; done) | (simp (maxDischargeDepth := 5) [go_sem]; done) | (simp (maxDischargeDepth := 5) [go_sem, *]; done)); clear hq hg; refine kuse (b := b1_1) hk2 (by first | with_reducible assumption | (simp; done) | (simp; omega) | omega) ?_; intro hq hg; have hy : b1_1 < w2.heap.size := kept_lt hk2 (by first | with_reducible assumption | (simp; done) | (simp; omega) | omega); have ff := (hq (0)).trans (show _ = some (.int .i64 (wh G)) by first | with_reducible assumption | (simp (maxDischargeDepth := 5) [go_sem]; done) | (simp (maxDischargeDepth := 5) [go_sem, *]; done)); have ff := (hq (1)).trans (show _ = some (.int .u64 (wl G)) by first | with_reducible assumption | (simp (maxDischargeDepth := 5) [go_sem]; done) | (simp (maxDischargeDepth := 5) [go_sem, *]; done)); have gg := fun o => (hg o).trans (show _ = false by first | (with_reducible apply_assumption; done) | (simp (maxDischargeDepth := 5) [go_sem]; done) | (simp (maxDischargeDepth := 5) [go_sem, *]; done)); clear hq hg; refine kuse (b := w.heap.size) hk2 (by first | with_reducible assumption | (simp; done) | (simp; omega) | omega) ?_; intro hq hg; have hy : w.heap.size < w2.heap.size := kept_lt hk2 (by first | with_reducible assumption | (simp; done) | (simp; omega) | omega); have ff := (hq (0)).trans (show _ = some (.int .i64 0) by first | with_reducible assumption | (simp (maxDischargeDepth := 5) [go_sem]; done) | (simp (maxDischargeDepth := 5) [go_sem, *]; done)); have ff := (hq (1)).trans (show _ = some (.int .i64 0) by first | with_reducible assumption | (simp (maxDischargeDepth := 5) [go_sem]; done) | (simp (maxDischargeDepth := 5) [go_sem, *]; done)); have gg := fun o => (hg o).trans (show _ = false by first | (with_reducible apply_assumption; done) | (simp (maxDischargeDepth := 5) [go_sem]; done) | (simp (maxDischargeDepth := 5) [go_sem, *]; done)); clear hq hg))
          all_goals (try go_wp2_with fail)
          go_region_held3 (fun W => W.cell? ⟨bB, k * 2, none⟩ = some (.int .i64 (wh y)) ∧ W.cell? ⟨bB, k * 2 + 1, none⟩ = some (.int .u64 (wl y)) ∧ W.cell? ⟨b1_1, 0, none⟩ = some (.int .i64 (wh G)) ∧ W.cell? ⟨b1_1, 1, none⟩ = some (.int .u64 (wl G))) (first | (go_keep; done) | (simp (maxDischargeDepth := 9) [*, World.cell?_alloc_some, World.cell?_setCell_far]; done) | (simp (maxDischargeDepth := 9) [go_sem, *]; done)) (first | (go_at_call 88; with_reducible refine (rcmp_le y G cgt _).mono ?_; rintro e w3 ⟨r_3, ⟨q_30, q_31⟩, rfl, hk3⟩; refine kuse (b := bB) hk3 (by first | with_reducible assumption | (simp; done) | (simp; omega) | omega) ?_; intro hq hg; have hy : bB < w3.heap.size := kept_lt hk3 (by first | with_reducible assumption | (simp; done) | (simp; omega) | omega); have ff := (hq (k * 2)).trans (show _ = some (.int .i64 (wh y)) by first | with_reducible assumption | (simp (maxDischargeDepth := 5) [go_sem]; done) | (simp (maxDischargeDepth := 5) [go_sem, *]; done)); have ff := (hq (k * 2 + 1)).trans (show _ = some (.int .u64 (wl y)) by first | with_reducible assumption | (simp (maxDischargeDepth := 5) [go_sem]; done) | (simp (maxDischargeDepth := 5) [go_sem, *]; done)); have gg := fun o => (hg o).trans (show _ = false by first | (with_reducible apply_assumption; done) | (simp (maxDischargeDepth := 5) [go_sem]; done) | (simp (maxDischargeDepth := 5) [go_sem, *]; done)); clear hq hg; refine kuse (b := b1_1) hk3 (by first | with_reducible assumption | (simp; done) | (simp; omega) | omega) ?_; intro hq hg; have hy : b1_1 < w3.heap.size := kept_lt hk3 (by first | with_reducible assumption | (simp; done) | (simp; omega) | omega); have ff := (hq (0)).trans (show _ = some (.int .i64 (wh G)) by first | with_reducible assumption | (simp (maxDischargeDepth := 5) [go_sem]; done) | (simp (maxDischargeDepth := 5) [go_sem, *]; done)); have ff := (hq (1)).trans (show _ = some (.int .u64 (wl G)) by first | with_reducible assumption | (simp (maxDischargeDepth := 5) [go_sem]; done) | (simp (maxDischargeDepth := 5) [go_sem, *]; done)); have gg := fun o => (hg o).trans (show _ = false by first | (with_reducible apply_assumption; done) | (simp (maxDischargeDepth := 5) [go_sem]; done) | (simp (maxDischargeDepth := 5) [go_sem, *]; done)); clear hq hg))
          all_goals (try go_wp2_with fail)
          exact ⟨⟨k + 1, by go_num, by omega, Lib.hid (by rw [Q1.out]; exact (by repeat (first | with_reducible exact HO0.out | with_reducible refine own_s2 (u0 := .int .i64 (wh L)) (u1 := .int .u64 (wl L)) ?_ | with_reducible refine OwnB.setOther ?_ (by first | with_reducible assumption | omega) | with_reducible refine OwnB.drew ?_ | with_reducible refine OwnB.drewN ?_ _ | with_reducible refine OwnB.kept (by with_reducible assumption) ?_))), Lib.hid (by rw [Q2.out]; exact (by repeat (first | with_reducible exact HO1.out | with_reducible refine OwnB.setOther ?_ (by first | with_reducible assumption | omega) | with_reducible refine OwnB.drew ?_ | with_reducible refine OwnB.drewN ?_ _ | with_reducible refine OwnB.kept (by with_reducible assumption) ?_))), Lib.hid (by repeat (first | with_reducible exact HO2.out | with_reducible refine OwnB.setOther ?_ (by first | with_reducible assumption | omega) | with_reducible refine OwnB.drew ?_ | with_reducible refine OwnB.drewN ?_ _ | with_reducible refine OwnB.kept (by with_reducible assumption) ?_)), Lib.hid (by repeat (first | with_reducible exact Kept.refl _ | with_reducible assumption | with_reducible refine Kept.setCell ?_ (by first | (simp; done) | (simp; omega) | omega) _ | with_reducible refine Kept.alloc ?_ _ | with_reducible refine Kept.drewN ?_ _ | with_reducible refine Kept.drew ?_ | with_reducible refine Kept.trans ?_ (by with_reducible assumption) | with_reducible refine Kept.dr ?_ (by with_reducible assumption)))⟩, by simp [intOf]; omega⟩
      · have clt' : mnR A k ≤ A k := by omega
        clear clt
        have clt := clt'
        clear clt'
        by_cases cgt : mxR B k < B k
        · obtain ⟨a0, a1, a2, a3⟩ := SW.at_ HSA HW'.out k hlt
          obtain ⟨d0, d1, d2, d3⟩ := SW.at_ HSB HW'.out k hlt
          have q1 : mnR A (k + 1) = min (mnR A k) (A k) := rfl
          have q2 : mxR B (k + 1) = max (mxR B k) (B k) := rfl
          have Q1 := Lib.hid (show mnR A (k + 1) = mnR A k by rw [q1]; omega)
          have Q2 := Lib.hid (show mxR B (k + 1) = B k by rw [q2]; omega)
          clear q1 q2
          obtain ⟨x, hx⟩ : ∃ x, A k = x := ⟨_, rfl⟩
          obtain ⟨y, hy⟩ : ∃ x, B k = x := ⟨_, rfl⟩
          rw [hx] at a0 a1 clt
          try rw [hx] at Q1
          rw [hy] at d0 d1 cgt
          try rw [hy] at Q2
          clear hx hy
          obtain ⟨L, hL⟩ : ∃ x, mnR A k = x := ⟨_, rfl⟩
          obtain ⟨G, hG⟩ : ∃ x, mxR B k = x := ⟨_, rfl⟩
          rw [hL] at HO0 clt
          try rw [hL] at Q1
          rw [hG] at HO1 cgt
          try rw [hG] at Q2
          clear hL hG
          have kb : (k : Int) < n := by omega
          have hkk := HK.out
          have hsz := hkk.size
          have hww := HW'.out
          clear HW HK
          have s1 := HSA.out.sz
          have s2 := HSB.out.sz
          have n1 : ¬ bA = b1_0 := by omega
          have n2 : ¬ bA = b1_1 := by omega
          have n3 : ¬ bB = b1_0 := by omega
          have n4 : ¬ bB = b1_1 := by omega
          have n5 : ¬ b1_0 = b1_1 := fun e => ne1_1_0 e.symm
          have n6 : ¬ w.heap.size = b1_0 := by omega
          have n7 : ¬ w.heap.size = b1_1 := by omega
          have n8 : w.heap.size ≤ b1_0 := by omega
          have n9 : w.heap.size ≤ b1_1 := by omega
          clear s1 s2
          obtain ⟨hz_c9_0, hg_c9_0, hf_c9_0_0, hf_c9_0_1, _⟩ := HO0.out
          obtain ⟨hz_c9_1, hg_c9_1, hf_c9_1_0, hf_c9_1_1, _⟩ := HO1.out
          obtain ⟨hz_c9_2, hg_c9_2, hf_c9_2_0, hf_c9_2_1, _⟩ := HO2.out
          go_wp2_with fail
          go_region_held3 (fun W => W.cell? ⟨bA, k * 2, none⟩ = some (.int .i64 (wh x)) ∧ W.cell? ⟨bA, k * 2 + 1, none⟩ = some (.int .u64 (wl x)) ∧ W.cell? ⟨b1_0, 0, none⟩ = some (.int .i64 (wh L)) ∧ W.cell? ⟨b1_0, 1, none⟩ = some (.int .u64 (wl L))) (first | (go_keep; done) | (simp (maxDischargeDepth := 9) [*, World.cell?_alloc_some, World.cell?_setCell_far]; done) | (simp (maxDischargeDepth := 9) [go_sem, *]; done)) (first | (go_at_call 88; with_reducible refine (rcmp_ge x L clt _).mono ?_; rintro e w2 ⟨r_2, ⟨q_20, q_21⟩, rfl, hk2⟩; refine kuse (b := bA) hk2 (by first | with_reducible assumption | (simp; done) | (simp; omega) | omega) ?_; intro hq hg; have hy : bA < w2.heap.size := kept_lt hk2 (by first | with_reducible assumption | (simp; done) | (simp; omega) | omega); have ff := (hq (k * 2)).trans (show _ = some (.int .i64 (wh x)) by first | with_reducible assumption | (simp (maxDischargeDepth := 5) [go_sem]; done) | (simp (maxDischargeDepth := 5) [go_sem, *]; done)); have ff := (hq (k * 2 + 1)).trans (show _ = some (.int .u64 (wl x)) by first | with_reducible assumption | (simp (maxDischargeDepth := 5) [go_sem]; done) | (simp (maxDischargeDepth := 5) [go_sem, *]; done)); have gg := fun o => (hg o).trans (show _ = false by first | (with_reducible apply_assumption; done) | (simp (maxDischargeDepth := 5) [go_sem]; done) | (simp (maxDischargeDepth := 5) [go_sem, *]; done)); clear hq hg; refine kuse (b := bB) hk2 (by first | with_reducible assumption | (simp; done) | (simp; omega) | omega) ?_; intro hq hg; have hy : bB < w2.heap.size := kept_lt hk2 (by first | with_reducible assumption | (simp; done) | (simp; omega) | omega); have ff := (hq (k * 2)).trans (show _ = some (.int .i64 (wh y)) by first | with_reducible assumption | (simp (maxDischargeDepth := 5) [go_sem]; done) | (simp (maxDischargeDepth := 5) [go_sem, *]; done)); have ff := (hq (k * 2 + 1)).trans (show _ = some (.int .u64 (wl y)) by first | with_reducible assumption | (simp (maxDischargeDepth := 5) [go_sem]; done) | (simp (maxDischargeDepth := 5) [go_sem, *]; done)); have gg := fun o => (hg o).trans (show _ = false by first | (with_reducible apply_assumption; done) | (simp (maxDischargeDepth := 5) [go_sem]; done) | (simp (maxDischargeDepth := 5) [go_sem, *]; done)); clear hq hg; refine kuse (b := b1_0) hk2 (by first | with_reducible assumption | (simp; done) | (simp; omega) | omega) ?_; intro hq hg; have hy : b1_0 < w2.heap.size := kept_lt hk2 (by first | with_reducible assumption | (simp; done) | (simp; omega) | omega); have ff := (hq (0)).trans (show _ = some (.int .i64 (wh L)) by first | with_reducible assumption | (simp (maxDischargeDepth := 5) [go_sem]; done) | (simp (maxDischargeDepth := 5) [go_sem, *]; done)); have ff := (hq (1)).trans (show _ = some (.int .u64 (wl L)) by first | with_reducible assumption | (simp (maxDischargeDepth := 5) [go_sem]; done) | (simp (maxDischargeDepth := 5) [go_sem, *]; done)); have gg := fun o => (hg o).trans (show _ = false by first | (with_reducible apply_assumption; done) | (simp (maxDischargeDepth := 5) [go_sem]; done) | (simp (maxDischargeDepth := 5) [go_sem, *]; done)); clear hq hg; refine kuse (b := b1_1) hk2 (by first | with_reducible assumption | (simp; done) | (simp; omega) | omega) ?_; intro hq hg; have hy : b1_1 < w2.heap.size := kept_lt hk2 (by first | with_reducible assumption | (simp; done) | (simp; omega) | omega); have ff := (hq (0)).trans (show _ = some (.int .i64 (wh G)) by first | with_reducible assumption | (simp (maxDischargeDepth := 5) [go_sem]; done) | (simp (maxDischargeDepth := 5) [go_sem, *]; done)); have ff := (hq (1)).trans (show _ = some (.int .u64 (wl G)) by first | with_reducible assumption | (simp (maxDischargeDepth := 5) [go_sem]; done) | (simp (maxDischargeDepth := 5) [go_sem, *]; done)); have gg := fun o => (hg o).trans (show _ = false by first | (with_reducible apply_assumption; done) | (simp (maxDischargeDepth := 5) [go_sem]; done) | (simp (maxDischargeDepth := 5) [go_sem, *]; done)); clear hq hg; refine kuse (b := w.heap.size) hk2 (by first | with_reducible assumption | (simp; done) | (simp; omega) | omega) ?_; intro hq hg; have hy : w.heap.size < w2.heap.size := kept_lt hk2 (by first | with_reducible assumption | (simp; done) | (simp; omega) | omega); have ff := (hq (0)).trans (show _ = some (.int .i64 0) by first | with_reducible assumption | (simp (maxDischargeDepth := 5) [go_sem]; done) | (simp (maxDischargeDepth := 5) [go_sem, *]; done)); have ff := (hq (1)).trans (show _ = some (.int .i64 0) by first | with_reducible assumption | (simp (maxDischargeDepth := 5) [go_sem]; done) | (simp (maxDischargeDepth := 5) [go_sem, *]; done)); have gg := fun o => (hg o).trans (show _ = false by first | (with_reducible apply_assumption; done) | (simp (maxDischargeDepth := 5) [go_sem]; done) | (simp (maxDischargeDepth := 5) [go_sem, *]; done)); clear hq hg))
          all_goals (try go_wp2_with fail)
          go_region_held3 (fun W => W.cell? ⟨bB, k * 2, none⟩ = some (.int .i64 (wh y)) ∧ W.cell? ⟨bB, k * 2 + 1, none⟩ = some (.int .u64 (wl y)) ∧ W.cell? ⟨b1_1, 0, none⟩ = some (.int .i64 (wh G)) ∧ W.cell? ⟨b1_1, 1, none⟩ = some (.int .u64 (wl G))) (first | (go_keep; done) | (simp (maxDischargeDepth := 9) [*, World.cell?_alloc_some, World.cell?_setCell_far]; done) | (simp (maxDischargeDepth := 9) [go_sem, *]; done)) (first | (go_at_call 88; with_reducible refine (rcmp_pos y G cgt _).mono ?_; rintro e w3 ⟨rfl, hk3⟩; refine kuse (b := bB) hk3 (by first | with_reducible assumption | (simp; done) | (simp; omega) | omega) ?_; intro hq hg; have hy : bB < w3.heap.size := kept_lt hk3 (by first | with_reducible assumption | (simp; done) | (simp; omega) | omega); have ff := (hq (k * 2)).trans (show _ = some (.int .i64 (wh y)) by first | with_reducible assumption | (simp (maxDischargeDepth := 5) [go_sem]; done) | (simp (maxDischargeDepth := 5) [go_sem, *]; done)); have ff := (hq (k * 2 + 1)).trans (show _ = some (.int .u64 (wl y)) by first | with_reducible assumption | (simp (maxDischargeDepth := 5) [go_sem]; done) | (simp (maxDischargeDepth := 5) [go_sem, *]; done)); have gg := fun o => (hg o).trans (show _ = false by first | (with_reducible apply_assumption; done) | (simp (maxDischargeDepth := 5) [go_sem]; done) | (simp (maxDischargeDepth := 5) [go_sem, *]; done)); clear hq hg; refine kuse (b := b1_1) hk3 (by first | with_reducible assumption | (simp; done) | (simp; omega) | omega) ?_; intro hq hg; have hy : b1_1 < w3.heap.size := kept_lt hk3 (by first | with_reducible assumption | (simp; done) | (simp; omega) | omega); have ff := (hq (0)).trans (show _ = some (.int .i64 (wh G)) by first | with_reducible assumption | (simp (maxDischargeDepth := 5) [go_sem]; done) | (simp (maxDischargeDepth := 5) [go_sem, *]; done)); have ff := (hq (1)).trans (show _ = some (.int .u64 (wl G)) by first | with_reducible assumption | (simp (maxDischargeDepth := 5) [go_sem]; done) | (simp (maxDischargeDepth := 5) [go_sem, *]; done)); have gg := fun o => (hg o).trans (show _ = false by first | (with_reducible apply_assumption; done) | (simp (maxDischargeDepth := 5) [go_sem]; done) | (simp (maxDischargeDepth := 5) [go_sem, *]; done)); clear hq hg))
          all_goals (try go_wp2_with fail)
          exact ⟨⟨k + 1, by go_num, by omega, Lib.hid (by rw [Q1.out]; exact (by repeat (first | with_reducible exact HO0.out | with_reducible refine OwnB.setOther ?_ (by first | with_reducible assumption | omega) | with_reducible refine OwnB.drew ?_ | with_reducible refine OwnB.drewN ?_ _ | with_reducible refine OwnB.kept (by with_reducible assumption) ?_))), Lib.hid (by rw [Q2.out]; exact (by repeat (first | with_reducible exact HO1.out | with_reducible refine own_s2 (u0 := .int .i64 (wh G)) (u1 := .int .u64 (wl G)) ?_ | with_reducible refine OwnB.setOther ?_ (by first | with_reducible assumption | omega) | with_reducible refine OwnB.drew ?_ | with_reducible refine OwnB.drewN ?_ _ | with_reducible refine OwnB.kept (by with_reducible assumption) ?_))), Lib.hid (by repeat (first | with_reducible exact HO2.out | with_reducible refine OwnB.setOther ?_ (by first | with_reducible assumption | omega) | with_reducible refine OwnB.drew ?_ | with_reducible refine OwnB.drewN ?_ _ | with_reducible refine OwnB.kept (by with_reducible assumption) ?_)), Lib.hid (by repeat (first | with_reducible exact Kept.refl _ | with_reducible assumption | with_reducible refine Kept.setCell ?_ (by first | (simp; done) | (simp; omega) | omega) _ | with_reducible refine Kept.alloc ?_ _ | with_reducible refine Kept.drewN ?_ _ | with_reducible refine Kept.drew ?_ | with_reducible refine Kept.trans ?_ (by with_reducible assumption) | with_reducible refine Kept.dr ?_ (by with_reducible assumption)))⟩, by simp [intOf]; omega⟩
        · have cgt' : B k ≤ mxR B k := by omega
          clear cgt
          have cgt := cgt'
          clear cgt'
          obtain ⟨a0, a1, a2, a3⟩ := SW.at_ HSA HW'.out k hlt
          obtain ⟨d0, d1, d2, d3⟩ := SW.at_ HSB HW'.out k hlt
          have q1 : mnR A (k + 1) = min (mnR A k) (A k) := rfl
          have q2 : mxR B (k + 1) = max (mxR B k) (B k) := rfl
          have Q1 := Lib.hid (show mnR A (k + 1) = mnR A k by rw [q1]; omega)
          have Q2 := Lib.hid (show mxR B (k + 1) = mxR B k by rw [q2]; omega)
          clear q1 q2
          obtain ⟨x, hx⟩ : ∃ x, A k = x := ⟨_, rfl⟩
          obtain ⟨y, hy⟩ : ∃ x, B k = x := ⟨_, rfl⟩
          rw [hx] at a0 a1 clt
          try rw [hx] at Q1
          rw [hy] at d0 d1 cgt
          try rw [hy] at Q2
          clear hx hy
          obtain ⟨L, hL⟩ : ∃ x, mnR A k = x := ⟨_, rfl⟩
          obtain ⟨G, hG⟩ : ∃ x, mxR B k = x := ⟨_, rfl⟩
          rw [hL] at HO0 clt
          try rw [hL] at Q1
          rw [hG] at HO1 cgt
          try rw [hG] at Q2
          clear hL hG
          have kb : (k : Int) < n := by omega
          have hkk := HK.out
          have hsz := hkk.size
          have hww := HW'.out
          clear HW HK
          have s1 := HSA.out.sz
          have s2 := HSB.out.sz
          have n1 : ¬ bA = b1_0 := by omega
          have n2 : ¬ bA = b1_1 := by omega
          have n3 : ¬ bB = b1_0 := by omega
          have n4 : ¬ bB = b1_1 := by omega
          have n5 : ¬ b1_0 = b1_1 := fun e => ne1_1_0 e.symm
          have n6 : ¬ w.heap.size = b1_0 := by omega
          have n7 : ¬ w.heap.size = b1_1 := by omega
          have n8 : w.heap.size ≤ b1_0 := by omega
          have n9 : w.heap.size ≤ b1_1 := by omega
          clear s1 s2
          obtain ⟨hz_c9_0, hg_c9_0, hf_c9_0_0, hf_c9_0_1, _⟩ := HO0.out
          obtain ⟨hz_c9_1, hg_c9_1, hf_c9_1_0, hf_c9_1_1, _⟩ := HO1.out
          obtain ⟨hz_c9_2, hg_c9_2, hf_c9_2_0, hf_c9_2_1, _⟩ := HO2.out
          go_wp2_with fail
          go_region_held3 (fun W => W.cell? ⟨bA, k * 2, none⟩ = some (.int .i64 (wh x)) ∧ W.cell? ⟨bA, k * 2 + 1, none⟩ = some (.int .u64 (wl x)) ∧ W.cell? ⟨b1_0, 0, none⟩ = some (.int .i64 (wh L)) ∧ W.cell? ⟨b1_0, 1, none⟩ = some (.int .u64 (wl L))) (first | (go_keep; done) | (simp (maxDischargeDepth := 9) [*, World.cell?_alloc_some, World.cell?_setCell_far]; done) | (simp (maxDischargeDepth := 9) [go_sem, *]; done)) (first | (go_at_call 88; with_reducible refine (rcmp_ge x L clt _).mono ?_; rintro e w2 ⟨r_2, ⟨q_20, q_21⟩, rfl, hk2⟩; refine kuse (b := bA) hk2 (by first | with_reducible assumption | (simp; done) | (simp; omega) | omega) ?_; intro hq hg; have hy : bA < w2.heap.size := kept_lt hk2 (by first | with_reducible assumption | (simp; done) | (simp; omega) | omega); have ff := (hq (k * 2)).trans (show _ = some (.int .i64 (wh x)) by first | with_reducible assumption | (simp (maxDischargeDepth := 5) [go_sem]; done) | (simp (maxDischargeDepth := 5) [go_sem, *]; done)); have ff := (hq (k * 2 + 1)).trans (show _ = some (.int .u64 (wl x)) by first | with_reducible assumption | (simp (maxDischargeDepth := 5) [go_sem]; done) | (simp (maxDischargeDepth := 5) [go_sem, *]; done)); have gg := fun o => (hg o).trans (show _ = false by first | (with_reducible apply_assumption; done) | (simp (maxDischargeDepth := 5) [go_sem]; done) | (simp (maxDischargeDepth := 5) [go_sem, *]; done)); clear hq hg; refine kuse (b := bB) hk2 (by first | with_reducible assumption | (simp; done) | (simp; omega) | omega) ?_; intro hq hg; have hy : bB < w2.heap.size := kept_lt hk2 (by first | with_reducible assumption | (simp; done) | (simp; omega) | omega); have ff := (hq (k * 2)).trans (show _ = some (.int .i64 (wh y)) by first | with_reducible assumption | (simp (maxDischargeDepth := 5) [go_sem]; done) | (simp (maxDischargeDepth := 5) [go_sem, *]; done)); have ff := (hq (k * 2 + 1)).trans (show _ = some (.int .u64 (wl y)) by first | with_reducible assumption | (simp (maxDischargeDepth := 5) [go_sem]; done) | (simp (maxDischargeDepth := 5) [go_sem, *]; done)); have gg := fun o => (hg o).trans (show _ = false by first | (with_reducible apply_assumption; done) | (simp (maxDischargeDepth := 5) [go_sem]; done) | (simp (maxDischargeDepth := 5) [go_sem, *]; done)); clear hq hg; refine kuse (b := b1_0) hk2 (by first | with_reducible assumption | (simp; done) | (simp; omega) | omega) ?_; intro hq hg; have hy : b1_0 < w2.heap.size := kept_lt hk2 (by first | with_reducible assumption | (simp; done) | (simp; omega) | omega); have ff := (hq (0)).trans (show _ = some (.int .i64 (wh L)) by first | with_reducible assumption | (simp (maxDischargeDepth := 5) [go_sem]; done) | (simp (maxDischargeDepth := 5) [go_sem, *]; done)); have ff := (hq (1)).trans (show _ = some (.int .u64 (wl L)) by first | with_reducible assumption | (simp (maxDischargeDepth := 5) [go_sem]; done) | (simp (maxDischargeDepth := 5) [go_sem, *]; done)); have gg := fun o => (hg o).trans (show _ = false by first | (with_reducible apply_assumption; done) | (simp (maxDischargeDepth := 5) [go_sem]; done) | (simp (maxDischargeDepth := 5) [go_sem, *]; done)); clear hq hg; refine kuse (b := b1_1) hk2 (by first | with_reducible assumption | (simp; done) | (simp; omega) | omega) ?_; intro hq hg; have hy : b1_1 < w2.heap.size := kept_lt hk2 (by first | with_reducible assumption | (simp; done) | (simp; omega) | omega); have ff := (hq (0)).trans (show _ = some (.int .i64 (wh G)) by first | with_reducible assumption | (simp (maxDischargeDepth := 5) [go_sem]; done) | (simp (maxDischargeDepth := 5) [go_sem, *]; done)); have ff := (hq (1)).trans (show _ = some (.int .u64 (wl G)) by first | with_reducible assumption | (simp (maxDischargeDepth := 5) [go_sem]; done) | (simp (maxDischargeDepth := 5) [go_sem, *]; done)); have gg := fun o => (hg o).trans (show _ = false by first | (with_reducible apply_assumption; done) | (simp (maxDischargeDepth := 5) [go_sem]; done) | (simp (maxDischargeDepth := 5) [go_sem, *]; done)); clear hq hg; refine kuse (b := w.heap.size) hk2 (by first | with_reducible assumption | (simp; done) | (simp; omega) | omega) ?_; intro hq hg; have hy : w.heap.size < w2.heap.size := kept_lt hk2 (by first | with_reducible assumption | (simp; done) | (simp; omega) | omega); have ff := (hq (0)).trans (show _ = some (.int .i64 0) by first | with_reducible assumption | (simp (maxDischargeDepth := 5) [go_sem]; done) | (simp (maxDischargeDepth := 5) [go_sem, *]; done)); have ff := (hq (1)).trans (show _ = some (.int .i64 0) by first | with_reducible assumption | (simp (maxDischargeDepth := 5) [go_sem]; done) | (simp (maxDischargeDepth := 5) [go_sem, *]; done)); have gg := fun o => (hg o).trans (show _ = false by first | (with_reducible apply_assumption; done) | (simp (maxDischargeDepth := 5) [go_sem]; done) | (simp (maxDischargeDepth := 5) [go_sem, *]; done)); clear hq hg))
          all_goals (try go_wp2_with fail)
          go_region_held3 (fun W => W.cell? ⟨bB, k * 2, none⟩ = some (.int .i64 (wh y)) ∧ W.cell? ⟨bB, k * 2 + 1, none⟩ = some (.int .u64 (wl y)) ∧ W.cell? ⟨b1_1, 0, none⟩ = some (.int .i64 (wh G)) ∧ W.cell? ⟨b1_1, 1, none⟩ = some (.int .u64 (wl G))) (first | (go_keep; done) | (simp (maxDischargeDepth := 9) [*, World.cell?_alloc_some, World.cell?_setCell_far]; done) | (simp (maxDischargeDepth := 9) [go_sem, *]; done)) (first | (go_at_call 88; with_reducible refine (rcmp_le y G cgt _).mono ?_; rintro e w3 ⟨r_3, ⟨q_30, q_31⟩, rfl, hk3⟩; refine kuse (b := bB) hk3 (by first | with_reducible assumption | (simp; done) | (simp; omega) | omega) ?_; intro hq hg; have hy : bB < w3.heap.size := kept_lt hk3 (by first | with_reducible assumption | (simp; done) | (simp; omega) | omega); have ff := (hq (k * 2)).trans (show _ = some (.int .i64 (wh y)) by first | with_reducible assumption | (simp (maxDischargeDepth := 5) [go_sem]; done) | (simp (maxDischargeDepth := 5) [go_sem, *]; done)); have ff := (hq (k * 2 + 1)).trans (show _ = some (.int .u64 (wl y)) by first | with_reducible assumption | (simp (maxDischargeDepth := 5) [go_sem]; done) | (simp (maxDischargeDepth := 5) [go_sem, *]; done)); have gg := fun o => (hg o).trans (show _ = false by first | (with_reducible apply_assumption; done) | (simp (maxDischargeDepth := 5) [go_sem]; done) | (simp (maxDischargeDepth := 5) [go_sem, *]; done)); clear hq hg; refine kuse (b := b1_1) hk3 (by first | with_reducible assumption | (simp; done) | (simp; omega) | omega) ?_; intro hq hg; have hy : b1_1 < w3.heap.size := kept_lt hk3 (by first | with_reducible assumption | (simp; done) | (simp; omega) | omega); have ff := (hq (0)).trans (show _ = some (.int .i64 (wh G)) by first | with_reducible assumption | (simp (maxDischargeDepth := 5) [go_sem]; done) | (simp (maxDischargeDepth := 5) [go_sem, *]; done)); have ff := (hq (1)).trans (show _ = some (.int .u64 (wl G)) by first | with_reducible assumption | (simp (maxDischargeDepth := 5) [go_sem]; done) | (simp (maxDischargeDepth := 5) [go_sem, *]; done)); have gg := fun o => (hg o).trans (show _ = false by first | (with_reducible apply_assumption; done) | (simp (maxDischargeDepth := 5) [go_sem]; done) | (simp (maxDischargeDepth := 5) [go_sem, *]; done)); clear hq hg))
          all_goals (try go_wp2_with fail)
          exact ⟨⟨k + 1, by go_num, by omega, Lib.hid (by rw [Q1.out]; exact (by repeat (first | with_reducible exact HO0.out | with_reducible refine OwnB.setOther ?_ (by first | with_reducible assumption | omega) | with_reducible refine OwnB.drew ?_ | with_reducible refine OwnB.drewN ?_ _ | with_reducible refine OwnB.kept (by with_reducible assumption) ?_))), Lib.hid (by rw [Q2.out]; exact (by repeat (first | with_reducible exact HO1.out | with_reducible refine OwnB.setOther ?_ (by first | with_reducible assumption | omega) | with_reducible refine OwnB.drew ?_ | with_reducible refine OwnB.drewN ?_ _ | with_reducible refine OwnB.kept (by with_reducible assumption) ?_))), Lib.hid (by repeat (first | with_reducible exact HO2.out | with_reducible refine OwnB.setOther ?_ (by first | with_reducible assumption | omega) | with_reducible refine OwnB.drew ?_ | with_reducible refine OwnB.drewN ?_ _ | with_reducible refine OwnB.kept (by with_reducible assumption) ?_)), Lib.hid (by repeat (first | with_reducible exact Kept.refl _ | with_reducible assumption | with_reducible refine Kept.setCell ?_ (by first | (simp; done) | (simp; omega) | omega) _ | with_reducible refine Kept.alloc ?_ _ | with_reducible refine Kept.drewN ?_ _ | with_reducible refine Kept.drew ?_ | with_reducible refine Kept.trans ?_ (by with_reducible assumption) | with_reducible refine Kept.dr ?_ (by with_reducible assumption)))⟩, by simp [intOf]; omega⟩
    · obtain rfl : k = n := by omega
      rw [hl.out] at HO0
      rw [hg.out] at HO1
      have hww := HW'.out
      clear HW HK HSA HSB hl hg
      by_cases fl : -9223372036854775808 ≤ l ∧ l ≤ 9223372036854775807
      · by_cases fg : -9223372036854775808 ≤ g ∧ g ≤ 9223372036854775807
        · obtain ⟨hz_c9_0, hg_c9_0, hf_c9_0_0, hf_c9_0_1, _⟩ := HO0.out
          obtain ⟨hz_c9_1, hg_c9_1, hf_c9_1_0, hf_c9_1_1, _⟩ := HO1.out
          obtain ⟨hz_c9_2, hg_c9_2, hf_c9_2_0, hf_c9_2_1, _⟩ := HO2.out
          go_wp2_with fail
          with_reducible refine (ref_int_ok l fl _).mono ?_
          rintro e w6 ⟨rfl, hk6⟩
          refine kuz (b := b1_0) hk6 (by first | (simp; done) | (simp; omega) | omega) ?_
          intro ha hb hz6_0 hn6_0 hm6_0
          have hf6_0_0 : w6.cell? ⟨b1_0, 0, none⟩ = some (.int .i64 (wh (l))) := (ha _).trans (by first | with_reducible assumption | (simp (maxDischargeDepth := 7) [go_sem]; done) | (simp (maxDischargeDepth := 7) [go_sem, *]; done))
          have hf6_0_1 : w6.cell? ⟨b1_0, 1, none⟩ = some (.int .u64 (wl (l))) := (ha _).trans (by first | with_reducible assumption | (simp (maxDischargeDepth := 7) [go_sem]; done) | (simp (maxDischargeDepth := 7) [go_sem, *]; done))
          try have hg6_0 : ∀ o, w6.frozen? ⟨b1_0, o, none⟩ = false := by intro o; rw [hb]; first | (simp (maxDischargeDepth := 7) [go_sem]; done) | (simp (maxDischargeDepth := 7) [go_sem, *]; done)
          clear ha hb
          refine kuz (b := b1_1) hk6 (by first | (simp; done) | (simp; omega) | omega) ?_
          intro ha hb hz6_1 hn6_1 hm6_1
          have hf6_1_0 : w6.cell? ⟨b1_1, 0, none⟩ = some (.int .i64 (wh (g))) := (ha _).trans (by first | with_reducible assumption | (simp (maxDischargeDepth := 7) [go_sem]; done) | (simp (maxDischargeDepth := 7) [go_sem, *]; done))
          have hf6_1_1 : w6.cell? ⟨b1_1, 1, none⟩ = some (.int .u64 (wl (g))) := (ha _).trans (by first | with_reducible assumption | (simp (maxDischargeDepth := 7) [go_sem]; done) | (simp (maxDischargeDepth := 7) [go_sem, *]; done))
          try have hg6_1 : ∀ o, w6.frozen? ⟨b1_1, o, none⟩ = false := by intro o; rw [hb]; first | (simp (maxDischargeDepth := 7) [go_sem]; done) | (simp (maxDischargeDepth := 7) [go_sem, *]; done)
          clear ha hb
          refine kuz (b := w.heap.size) hk6 (by first | (simp; done) | (simp; omega) | omega) ?_
          intro ha hb hz6_2 hn6_2 hm6_2
          have hf6_2_0 : w6.cell? ⟨w.heap.size, 0, none⟩ = some (.int .i64 0) := (ha _).trans (by first | with_reducible assumption | (simp (maxDischargeDepth := 7) [go_sem]; done) | (simp (maxDischargeDepth := 7) [go_sem, *]; done))
          have hf6_2_1 : w6.cell? ⟨w.heap.size, 1, none⟩ = some (.int .i64 0) := (ha _).trans (by first | with_reducible assumption | (simp (maxDischargeDepth := 7) [go_sem]; done) | (simp (maxDischargeDepth := 7) [go_sem, *]; done))
          try have hg6_2 : ∀ o, w6.frozen? ⟨w.heap.size, o, none⟩ = false := by intro o; rw [hb]; first | (simp (maxDischargeDepth := 7) [go_sem]; done) | (simp (maxDischargeDepth := 7) [go_sem, *]; done)
          clear ha hb
          try clear hf_c9_0_0
          try clear hf_c9_0_1
          try clear hf_c9_1_0
          try clear hf_c9_1_1
          try clear hf_c9_2_0
          try clear hf_c9_2_1
          try clear hg_c9_0
          try clear hg_c9_1
          try clear hg_c9_2
          go_wp2_with fail
          with_reducible refine (ref_int_ok g fg _).mono ?_
          rintro e w7 ⟨rfl, hk7⟩
          refine kuz (b := b1_0) hk7 (by first | (simp; done) | (simp; omega) | omega) ?_
          intro ha hb hz7_0 hn7_0 hm7_0
          have hf7_0_0 : w7.cell? ⟨b1_0, 0, none⟩ = some (.int .i64 (wh (l))) := (ha _).trans (by first | with_reducible assumption | (simp (maxDischargeDepth := 7) [go_sem]; done) | (simp (maxDischargeDepth := 7) [go_sem, *]; done))
          have hf7_0_1 : w7.cell? ⟨b1_0, 1, none⟩ = some (.int .u64 (wl (l))) := (ha _).trans (by first | with_reducible assumption | (simp (maxDischargeDepth := 7) [go_sem]; done) | (simp (maxDischargeDepth := 7) [go_sem, *]; done))
          try have hg7_0 : ∀ o, w7.frozen? ⟨b1_0, o, none⟩ = false := by intro o; rw [hb]; first | (simp (maxDischargeDepth := 7) [go_sem]; done) | (simp (maxDischargeDepth := 7) [go_sem, *]; done)
          clear ha hb
          refine kuz (b := b1_1) hk7 (by first | (simp; done) | (simp; omega) | omega) ?_
          intro ha hb hz7_1 hn7_1 hm7_1
          have hf7_1_0 : w7.cell? ⟨b1_1, 0, none⟩ = some (.int .i64 (wh (g))) := (ha _).trans (by first | with_reducible assumption | (simp (maxDischargeDepth := 7) [go_sem]; done) | (simp (maxDischargeDepth := 7) [go_sem, *]; done))
          have hf7_1_1 : w7.cell? ⟨b1_1, 1, none⟩ = some (.int .u64 (wl (g))) := (ha _).trans (by first | with_reducible assumption | (simp (maxDischargeDepth := 7) [go_sem]; done) | (simp (maxDischargeDepth := 7) [go_sem, *]; done))
          try have hg7_1 : ∀ o, w7.frozen? ⟨b1_1, o, none⟩ = false := by intro o; rw [hb]; first | (simp (maxDischargeDepth := 7) [go_sem]; done) | (simp (maxDischargeDepth := 7) [go_sem, *]; done)
          clear ha hb
          refine kuz (b := w.heap.size) hk7 (by first | (simp; done) | (simp; omega) | omega) ?_
          intro ha hb hz7_2 hn7_2 hm7_2
          have hf7_2_0 : w7.cell? ⟨w.heap.size, 0, none⟩ = some (.int .i64 0) := (ha _).trans (by first | with_reducible assumption | (simp (maxDischargeDepth := 7) [go_sem]; done) | (simp (maxDischargeDepth := 7) [go_sem, *]; done))
          have hf7_2_1 : w7.cell? ⟨w.heap.size, 1, none⟩ = some (.int .i64 0) := (ha _).trans (by first | with_reducible assumption | (simp (maxDischargeDepth := 7) [go_sem]; done) | (simp (maxDischargeDepth := 7) [go_sem, *]; done))
          try have hg7_2 : ∀ o, w7.frozen? ⟨w.heap.size, o, none⟩ = false := by intro o; rw [hb]; first | (simp (maxDischargeDepth := 7) [go_sem]; done) | (simp (maxDischargeDepth := 7) [go_sem, *]; done)
          clear ha hb
          try clear hf6_0_0
          try clear hf6_0_1
          try clear hf6_1_0
          try clear hf6_1_1
          try clear hf6_2_0
          try clear hf6_2_1
          try clear hg6_0
          try clear hg6_1
          try clear hg6_2
          try clear hz6_1
          try clear hz6_2
          go_wp2_with fail
          with_reducible refine (ref_valid_bad l g (by omega) _).mono ?_
          rintro e w8 ⟨rfl, hk8⟩
          refine kuz (b := b1_0) hk8 (by first | (simp; done) | (simp; omega) | omega) ?_
          intro ha hb hz8_0 hn8_0 hm8_0
          have hf8_0_0 : w8.cell? ⟨b1_0, 0, none⟩ = some (.int .i64 (wh (l))) := (ha _).trans (by first | with_reducible assumption | (simp (maxDischargeDepth := 7) [go_sem]; done) | (simp (maxDischargeDepth := 7) [go_sem, *]; done))
          have hf8_0_1 : w8.cell? ⟨b1_0, 1, none⟩ = some (.int .u64 (wl (l))) := (ha _).trans (by first | with_reducible assumption | (simp (maxDischargeDepth := 7) [go_sem]; done) | (simp (maxDischargeDepth := 7) [go_sem, *]; done))
          try have hg8_0 : ∀ o, w8.frozen? ⟨b1_0, o, none⟩ = false := by intro o; rw [hb]; first | (simp (maxDischargeDepth := 7) [go_sem]; done) | (simp (maxDischargeDepth := 7) [go_sem, *]; done)
          clear ha hb
          refine kuz (b := b1_1) hk8 (by first | (simp; done) | (simp; omega) | omega) ?_
          intro ha hb hz8_1 hn8_1 hm8_1
          have hf8_1_0 : w8.cell? ⟨b1_1, 0, none⟩ = some (.int .i64 (wh (g))) := (ha _).trans (by first | with_reducible assumption | (simp (maxDischargeDepth := 7) [go_sem]; done) | (simp (maxDischargeDepth := 7) [go_sem, *]; done))
          have hf8_1_1 : w8.cell? ⟨b1_1, 1, none⟩ = some (.int .u64 (wl (g))) := (ha _).trans (by first | with_reducible assumption | (simp (maxDischargeDepth := 7) [go_sem]; done) | (simp (maxDischargeDepth := 7) [go_sem, *]; done))
          try have hg8_1 : ∀ o, w8.frozen? ⟨b1_1, o, none⟩ = false := by intro o; rw [hb]; first | (simp (maxDischargeDepth := 7) [go_sem]; done) | (simp (maxDischargeDepth := 7) [go_sem, *]; done)
          clear ha hb
          refine kuz (b := w.heap.size) hk8 (by first | (simp; done) | (simp; omega) | omega) ?_
          intro ha hb hz8_2 hn8_2 hm8_2
          have hf8_2_0 : w8.cell? ⟨w.heap.size, 0, none⟩ = some (.int .i64 0) := (ha _).trans (by first | with_reducible assumption | (simp (maxDischargeDepth := 7) [go_sem]; done) | (simp (maxDischargeDepth := 7) [go_sem, *]; done))
          have hf8_2_1 : w8.cell? ⟨w.heap.size, 1, none⟩ = some (.int .i64 0) := (ha _).trans (by first | with_reducible assumption | (simp (maxDischargeDepth := 7) [go_sem]; done) | (simp (maxDischargeDepth := 7) [go_sem, *]; done))
          try have hg8_2 : ∀ o, w8.frozen? ⟨w.heap.size, o, none⟩ = false := by intro o; rw [hb]; first | (simp (maxDischargeDepth := 7) [go_sem]; done) | (simp (maxDischargeDepth := 7) [go_sem, *]; done)
          clear ha hb
          refine kuz (b := w7.heap.size) hk8 (by first | (simp; done) | (simp; omega) | omega) ?_
          intro ha hb hz8_3 hn8_3 hm8_3
          have hf8_3_0 : w8.cell? ⟨w7.heap.size, 0, none⟩ = some (.int .i64 l) := (ha _).trans (by first | with_reducible assumption | (simp (maxDischargeDepth := 7) [go_sem]; done) | (simp (maxDischargeDepth := 7) [go_sem, *]; done))
          have hf8_3_1 : w8.cell? ⟨w7.heap.size, 1, none⟩ = some (.int .i64 g) := (ha _).trans (by first | with_reducible assumption | (simp (maxDischargeDepth := 7) [go_sem]; done) | (simp (maxDischargeDepth := 7) [go_sem, *]; done))
          try have hg8_3 : ∀ o, w8.frozen? ⟨w7.heap.size, o, none⟩ = false := by intro o; rw [hb]; first | (simp (maxDischargeDepth := 7) [go_sem]; done) | (simp (maxDischargeDepth := 7) [go_sem, *]; done)
          clear ha hb
          try clear hf7_0_0
          try clear hf7_0_1
          try clear hf7_1_0
          try clear hf7_1_1
          try clear hf7_2_0
          try clear hf7_2_1
          try clear hg7_0
          try clear hg7_1
          try clear hg7_2
          try clear hz7_1
          try clear hz7_2
          go_wp2_with fail
          all_goals exact bodyPost_ret (v := .tuple #[.agg #[.int .i64 0, .int .i64 0], .int .i64 2]) (by first | (simp [results, Try.results78, go_sem]; done) | (simp (maxDischargeDepth := 7) [results, Try.results78, go_sem, *]; done)) rfl ⟨rfl, (by repeat (first | with_reducible exact Kept.refl _ | with_reducible assumption | with_reducible refine Kept.setCell ?_ (by first | (simp; done) | (simp; omega) | omega) _ | with_reducible refine Kept.alloc ?_ _ | with_reducible refine Kept.drewN ?_ _ | with_reducible refine Kept.drew ?_ | with_reducible refine Kept.trans ?_ (by with_reducible assumption) | with_reducible refine Kept.dr ?_ (by with_reducible assumption)))⟩
        · obtain ⟨hz_c9_0, hg_c9_0, hf_c9_0_0, hf_c9_0_1, _⟩ := HO0.out
          obtain ⟨hz_c9_1, hg_c9_1, hf_c9_1_0, hf_c9_1_1, _⟩ := HO1.out
          obtain ⟨hz_c9_2, hg_c9_2, hf_c9_2_0, hf_c9_2_1, _⟩ := HO2.out
          go_wp2_with fail
          with_reducible refine (ref_int_ok l fl _).mono ?_
          rintro e w6 ⟨rfl, hk6⟩
          refine kuz (b := b1_0) hk6 (by first | (simp; done) | (simp; omega) | omega) ?_
          intro ha hb hz6_0 hn6_0 hm6_0
          have hf6_0_0 : w6.cell? ⟨b1_0, 0, none⟩ = some (.int .i64 (wh (l))) := (ha _).trans (by first | with_reducible assumption | (simp (maxDischargeDepth := 7) [go_sem]; done) | (simp (maxDischargeDepth := 7) [go_sem, *]; done))
          have hf6_0_1 : w6.cell? ⟨b1_0, 1, none⟩ = some (.int .u64 (wl (l))) := (ha _).trans (by first | with_reducible assumption | (simp (maxDischargeDepth := 7) [go_sem]; done) | (simp (maxDischargeDepth := 7) [go_sem, *]; done))
          try have hg6_0 : ∀ o, w6.frozen? ⟨b1_0, o, none⟩ = false := by intro o; rw [hb]; first | (simp (maxDischargeDepth := 7) [go_sem]; done) | (simp (maxDischargeDepth := 7) [go_sem, *]; done)
          clear ha hb
          refine kuz (b := b1_1) hk6 (by first | (simp; done) | (simp; omega) | omega) ?_
          intro ha hb hz6_1 hn6_1 hm6_1
          have hf6_1_0 : w6.cell? ⟨b1_1, 0, none⟩ = some (.int .i64 (wh (g))) := (ha _).trans (by first | with_reducible assumption | (simp (maxDischargeDepth := 7) [go_sem]; done) | (simp (maxDischargeDepth := 7) [go_sem, *]; done))
          have hf6_1_1 : w6.cell? ⟨b1_1, 1, none⟩ = some (.int .u64 (wl (g))) := (ha _).trans (by first | with_reducible assumption | (simp (maxDischargeDepth := 7) [go_sem]; done) | (simp (maxDischargeDepth := 7) [go_sem, *]; done))
          try have hg6_1 : ∀ o, w6.frozen? ⟨b1_1, o, none⟩ = false := by intro o; rw [hb]; first | (simp (maxDischargeDepth := 7) [go_sem]; done) | (simp (maxDischargeDepth := 7) [go_sem, *]; done)
          clear ha hb
          refine kuz (b := w.heap.size) hk6 (by first | (simp; done) | (simp; omega) | omega) ?_
          intro ha hb hz6_2 hn6_2 hm6_2
          have hf6_2_0 : w6.cell? ⟨w.heap.size, 0, none⟩ = some (.int .i64 0) := (ha _).trans (by first | with_reducible assumption | (simp (maxDischargeDepth := 7) [go_sem]; done) | (simp (maxDischargeDepth := 7) [go_sem, *]; done))
          have hf6_2_1 : w6.cell? ⟨w.heap.size, 1, none⟩ = some (.int .i64 0) := (ha _).trans (by first | with_reducible assumption | (simp (maxDischargeDepth := 7) [go_sem]; done) | (simp (maxDischargeDepth := 7) [go_sem, *]; done))
          try have hg6_2 : ∀ o, w6.frozen? ⟨w.heap.size, o, none⟩ = false := by intro o; rw [hb]; first | (simp (maxDischargeDepth := 7) [go_sem]; done) | (simp (maxDischargeDepth := 7) [go_sem, *]; done)
          clear ha hb
          try clear hf_c9_0_0
          try clear hf_c9_0_1
          try clear hf_c9_1_0
          try clear hf_c9_1_1
          try clear hf_c9_2_0
          try clear hf_c9_2_1
          try clear hg_c9_0
          try clear hg_c9_1
          try clear hg_c9_2
          go_wp2_with fail
          with_reducible refine (ref_int_no g (by omega) _).mono ?_
          rintro e w7 ⟨rfl, hk7⟩
          refine kuz (b := b1_0) hk7 (by first | (simp; done) | (simp; omega) | omega) ?_
          intro ha hb hz7_0 hn7_0 hm7_0
          have hf7_0_0 : w7.cell? ⟨b1_0, 0, none⟩ = some (.int .i64 (wh (l))) := (ha _).trans (by first | with_reducible assumption | (simp (maxDischargeDepth := 7) [go_sem]; done) | (simp (maxDischargeDepth := 7) [go_sem, *]; done))
          have hf7_0_1 : w7.cell? ⟨b1_0, 1, none⟩ = some (.int .u64 (wl (l))) := (ha _).trans (by first | with_reducible assumption | (simp (maxDischargeDepth := 7) [go_sem]; done) | (simp (maxDischargeDepth := 7) [go_sem, *]; done))
          try have hg7_0 : ∀ o, w7.frozen? ⟨b1_0, o, none⟩ = false := by intro o; rw [hb]; first | (simp (maxDischargeDepth := 7) [go_sem]; done) | (simp (maxDischargeDepth := 7) [go_sem, *]; done)
          clear ha hb
          refine kuz (b := b1_1) hk7 (by first | (simp; done) | (simp; omega) | omega) ?_
          intro ha hb hz7_1 hn7_1 hm7_1
          have hf7_1_0 : w7.cell? ⟨b1_1, 0, none⟩ = some (.int .i64 (wh (g))) := (ha _).trans (by first | with_reducible assumption | (simp (maxDischargeDepth := 7) [go_sem]; done) | (simp (maxDischargeDepth := 7) [go_sem, *]; done))
          have hf7_1_1 : w7.cell? ⟨b1_1, 1, none⟩ = some (.int .u64 (wl (g))) := (ha _).trans (by first | with_reducible assumption | (simp (maxDischargeDepth := 7) [go_sem]; done) | (simp (maxDischargeDepth := 7) [go_sem, *]; done))
          try have hg7_1 : ∀ o, w7.frozen? ⟨b1_1, o, none⟩ = false := by intro o; rw [hb]; first | (simp (maxDischargeDepth := 7) [go_sem]; done) | (simp (maxDischargeDepth := 7) [go_sem, *]; done)
          clear ha hb
          refine kuz (b := w.heap.size) hk7 (by first | (simp; done) | (simp; omega) | omega) ?_
          intro ha hb hz7_2 hn7_2 hm7_2
          have hf7_2_0 : w7.cell? ⟨w.heap.size, 0, none⟩ = some (.int .i64 0) := (ha _).trans (by first | with_reducible assumption | (simp (maxDischargeDepth := 7) [go_sem]; done) | (simp (maxDischargeDepth := 7) [go_sem, *]; done))
          have hf7_2_1 : w7.cell? ⟨w.heap.size, 1, none⟩ = some (.int .i64 0) := (ha _).trans (by first | with_reducible assumption | (simp (maxDischargeDepth := 7) [go_sem]; done) | (simp (maxDischargeDepth := 7) [go_sem, *]; done))
          try have hg7_2 : ∀ o, w7.frozen? ⟨w.heap.size, o, none⟩ = false := by intro o; rw [hb]; first | (simp (maxDischargeDepth := 7) [go_sem]; done) | (simp (maxDischargeDepth := 7) [go_sem, *]; done)
          clear ha hb
          try clear hf6_0_0
          try clear hf6_0_1
          try clear hf6_1_0
          try clear hf6_1_1
          try clear hf6_2_0
          try clear hf6_2_1
          try clear hg6_0
          try clear hg6_1
          try clear hg6_2
          try clear hz6_1
          try clear hz6_2
          go_wp2_with fail
          all_goals exact bodyPost_ret (v := .tuple #[.agg #[.int .i64 0, .int .i64 0], .int .i64 2]) (by first | (simp [results, Try.results78, go_sem]; done) | (simp (maxDischargeDepth := 7) [results, Try.results78, go_sem, *]; done)) rfl ⟨rfl, (by repeat (first | with_reducible exact Kept.refl _ | with_reducible assumption | with_reducible refine Kept.setCell ?_ (by first | (simp; done) | (simp; omega) | omega) _ | with_reducible refine Kept.alloc ?_ _ | with_reducible refine Kept.drewN ?_ _ | with_reducible refine Kept.drew ?_ | with_reducible refine Kept.trans ?_ (by with_reducible assumption) | with_reducible refine Kept.dr ?_ (by with_reducible assumption)))⟩
      · by_cases fg : -9223372036854775808 ≤ g ∧ g ≤ 9223372036854775807
        · obtain ⟨hz_c9_0, hg_c9_0, hf_c9_0_0, hf_c9_0_1, _⟩ := HO0.out
          obtain ⟨hz_c9_1, hg_c9_1, hf_c9_1_0, hf_c9_1_1, _⟩ := HO1.out
          obtain ⟨hz_c9_2, hg_c9_2, hf_c9_2_0, hf_c9_2_1, _⟩ := HO2.out
          go_wp2_with fail
          with_reducible refine (ref_int_no l (by omega) _).mono ?_
          rintro e w6 ⟨rfl, hk6⟩
          refine kuz (b := b1_0) hk6 (by first | (simp; done) | (simp; omega) | omega) ?_
          intro ha hb hz6_0 hn6_0 hm6_0
          have hf6_0_0 : w6.cell? ⟨b1_0, 0, none⟩ = some (.int .i64 (wh (l))) := (ha _).trans (by first | with_reducible assumption | (simp (maxDischargeDepth := 7) [go_sem]; done) | (simp (maxDischargeDepth := 7) [go_sem, *]; done))
          have hf6_0_1 : w6.cell? ⟨b1_0, 1, none⟩ = some (.int .u64 (wl (l))) := (ha _).trans (by first | with_reducible assumption | (simp (maxDischargeDepth := 7) [go_sem]; done) | (simp (maxDischargeDepth := 7) [go_sem, *]; done))
          try have hg6_0 : ∀ o, w6.frozen? ⟨b1_0, o, none⟩ = false := by intro o; rw [hb]; first | (simp (maxDischargeDepth := 7) [go_sem]; done) | (simp (maxDischargeDepth := 7) [go_sem, *]; done)
          clear ha hb
          refine kuz (b := b1_1) hk6 (by first | (simp; done) | (simp; omega) | omega) ?_
          intro ha hb hz6_1 hn6_1 hm6_1
          have hf6_1_0 : w6.cell? ⟨b1_1, 0, none⟩ = some (.int .i64 (wh (g))) := (ha _).trans (by first | with_reducible assumption | (simp (maxDischargeDepth := 7) [go_sem]; done) | (simp (maxDischargeDepth := 7) [go_sem, *]; done))
          have hf6_1_1 : w6.cell? ⟨b1_1, 1, none⟩ = some (.int .u64 (wl (g))) := (ha _).trans (by first | with_reducible assumption | (simp (maxDischargeDepth := 7) [go_sem]; done) | (simp (maxDischargeDepth := 7) [go_sem, *]; done))
          try have hg6_1 : ∀ o, w6.frozen? ⟨b1_1, o, none⟩ = false := by intro o; rw [hb]; first | (simp (maxDischargeDepth := 7) [go_sem]; done) | (simp (maxDischargeDepth := 7) [go_sem, *]; done)
          clear ha hb
          refine kuz (b := w.heap.size) hk6 (by first | (simp; done) | (simp; omega) | omega) ?_
          intro ha hb hz6_2 hn6_2 hm6_2
          have hf6_2_0 : w6.cell? ⟨w.heap.size, 0, none⟩ = some (.int .i64 0) := (ha _).trans (by first | with_reducible assumption | (simp (maxDischargeDepth := 7) [go_sem]; done) | (simp (maxDischargeDepth := 7) [go_sem, *]; done))
          have hf6_2_1 : w6.cell? ⟨w.heap.size, 1, none⟩ = some (.int .i64 0) := (ha _).trans (by first | with_reducible assumption | (simp (maxDischargeDepth := 7) [go_sem]; done) | (simp (maxDischargeDepth := 7) [go_sem, *]; done))
          try have hg6_2 : ∀ o, w6.frozen? ⟨w.heap.size, o, none⟩ = false := by intro o; rw [hb]; first | (simp (maxDischargeDepth := 7) [go_sem]; done) | (simp (maxDischargeDepth := 7) [go_sem, *]; done)
          clear ha hb
          try clear hf_c9_0_0
          try clear hf_c9_0_1
          try clear hf_c9_1_0
          try clear hf_c9_1_1
          try clear hf_c9_2_0
          try clear hf_c9_2_1
          try clear hg_c9_0
          try clear hg_c9_1
          try clear hg_c9_2
          go_wp2_with fail
          with_reducible refine (ref_int_ok g fg _).mono ?_
          rintro e w7 ⟨rfl, hk7⟩
          refine kuz (b := b1_0) hk7 (by first | (simp; done) | (simp; omega) | omega) ?_
          intro ha hb hz7_0 hn7_0 hm7_0
          have hf7_0_0 : w7.cell? ⟨b1_0, 0, none⟩ = some (.int .i64 (wh (l))) := (ha _).trans (by first | with_reducible assumption | (simp (maxDischargeDepth := 7) [go_sem]; done) | (simp (maxDischargeDepth := 7) [go_sem, *]; done))
          have hf7_0_1 : w7.cell? ⟨b1_0, 1, none⟩ = some (.int .u64 (wl (l))) := (ha _).trans (by first | with_reducible assumption | (simp (maxDischargeDepth := 7) [go_sem]; done) | (simp (maxDischargeDepth := 7) [go_sem, *]; done))
          try have hg7_0 : ∀ o, w7.frozen? ⟨b1_0, o, none⟩ = false := by intro o; rw [hb]; first | (simp (maxDischargeDepth := 7) [go_sem]; done) | (simp (maxDischargeDepth := 7) [go_sem, *]; done)
          clear ha hb
          refine kuz (b := b1_1) hk7 (by first | (simp; done) | (simp; omega) | omega) ?_
          intro ha hb hz7_1 hn7_1 hm7_1
          have hf7_1_0 : w7.cell? ⟨b1_1, 0, none⟩ = some (.int .i64 (wh (g))) := (ha _).trans (by first | with_reducible assumption | (simp (maxDischargeDepth := 7) [go_sem]; done) | (simp (maxDischargeDepth := 7) [go_sem, *]; done))
          have hf7_1_1 : w7.cell? ⟨b1_1, 1, none⟩ = some (.int .u64 (wl (g))) := (ha _).trans (by first | with_reducible assumption | (simp (maxDischargeDepth := 7) [go_sem]; done) | (simp (maxDischargeDepth := 7) [go_sem, *]; done))
          try have hg7_1 : ∀ o, w7.frozen? ⟨b1_1, o, none⟩ = false := by intro o; rw [hb]; first | (simp (maxDischargeDepth := 7) [go_sem]; done) | (simp (maxDischargeDepth := 7) [go_sem, *]; done)
          clear ha hb
          refine kuz (b := w.heap.size) hk7 (by first | (simp; done) | (simp; omega) | omega) ?_
          intro ha hb hz7_2 hn7_2 hm7_2
          have hf7_2_0 : w7.cell? ⟨w.heap.size, 0, none⟩ = some (.int .i64 0) := (ha _).trans (by first | with_reducible assumption | (simp (maxDischargeDepth := 7) [go_sem]; done) | (simp (maxDischargeDepth := 7) [go_sem, *]; done))
          have hf7_2_1 : w7.cell? ⟨w.heap.size, 1, none⟩ = some (.int .i64 0) := (ha _).trans (by first | with_reducible assumption | (simp (maxDischargeDepth := 7) [go_sem]; done) | (simp (maxDischargeDepth := 7) [go_sem, *]; done))
          try have hg7_2 : ∀ o, w7.frozen? ⟨w.heap.size, o, none⟩ = false := by intro o; rw [hb]; first | (simp (maxDischargeDepth := 7) [go_sem]; done) | (simp (maxDischargeDepth := 7) [go_sem, *]; done)
          clear ha hb
          try clear hf6_0_0
          try clear hf6_0_1
          try clear hf6_1_0
          try clear hf6_1_1
          try clear hf6_2_0
          try clear hf6_2_1
          try clear hg6_0
          try clear hg6_1
          try clear hg6_2
          try clear hz6_1
          try clear hz6_2
          go_wp2_with fail
          all_goals exact bodyPost_ret (v := .tuple #[.agg #[.int .i64 0, .int .i64 0], .int .i64 2]) (by first | (simp [results, Try.results78, go_sem]; done) | (simp (maxDischargeDepth := 7) [results, Try.results78, go_sem, *]; done)) rfl ⟨rfl, (by repeat (first | with_reducible exact Kept.refl _ | with_reducible assumption | with_reducible refine Kept.setCell ?_ (by first | (simp; done) | (simp; omega) | omega) _ | with_reducible refine Kept.alloc ?_ _ | with_reducible refine Kept.drewN ?_ _ | with_reducible refine Kept.drew ?_ | with_reducible refine Kept.trans ?_ (by with_reducible assumption) | with_reducible refine Kept.dr ?_ (by with_reducible assumption)))⟩
        · obtain ⟨hz_c9_0, hg_c9_0, hf_c9_0_0, hf_c9_0_1, _⟩ := HO0.out
          obtain ⟨hz_c9_1, hg_c9_1, hf_c9_1_0, hf_c9_1_1, _⟩ := HO1.out
          obtain ⟨hz_c9_2, hg_c9_2, hf_c9_2_0, hf_c9_2_1, _⟩ := HO2.out
          go_wp2_with fail
          with_reducible refine (ref_int_no l (by omega) _).mono ?_
          rintro e w6 ⟨rfl, hk6⟩
          refine kuz (b := b1_0) hk6 (by first | (simp; done) | (simp; omega) | omega) ?_
          intro ha hb hz6_0 hn6_0 hm6_0
          have hf6_0_0 : w6.cell? ⟨b1_0, 0, none⟩ = some (.int .i64 (wh (l))) := (ha _).trans (by first | with_reducible assumption | (simp (maxDischargeDepth := 7) [go_sem]; done) | (simp (maxDischargeDepth := 7) [go_sem, *]; done))
          have hf6_0_1 : w6.cell? ⟨b1_0, 1, none⟩ = some (.int .u64 (wl (l))) := (ha _).trans (by first | with_reducible assumption | (simp (maxDischargeDepth := 7) [go_sem]; done) | (simp (maxDischargeDepth := 7) [go_sem, *]; done))
          try have hg6_0 : ∀ o, w6.frozen? ⟨b1_0, o, none⟩ = false := by intro o; rw [hb]; first | (simp (maxDischargeDepth := 7) [go_sem]; done) | (simp (maxDischargeDepth := 7) [go_sem, *]; done)
          clear ha hb
          refine kuz (b := b1_1) hk6 (by first | (simp; done) | (simp; omega) | omega) ?_
          intro ha hb hz6_1 hn6_1 hm6_1
          have hf6_1_0 : w6.cell? ⟨b1_1, 0, none⟩ = some (.int .i64 (wh (g))) := (ha _).trans (by first | with_reducible assumption | (simp (maxDischargeDepth := 7) [go_sem]; done) | (simp (maxDischargeDepth := 7) [go_sem, *]; done))
          have hf6_1_1 : w6.cell? ⟨b1_1, 1, none⟩ = some (.int .u64 (wl (g))) := (ha _).trans (by first | with_reducible assumption | (simp (maxDischargeDepth := 7) [go_sem]; done) | (simp (maxDischargeDepth := 7) [go_sem, *]; done))
          try have hg6_1 : ∀ o, w6.frozen? ⟨b1_1, o, none⟩ = false := by intro o; rw [hb]; first | (simp (maxDischargeDepth := 7) [go_sem]; done) | (simp (maxDischargeDepth := 7) [go_sem, *]; done)
          clear ha hb
          refine kuz (b := w.heap.size) hk6 (by first | (simp; done) | (simp; omega) | omega) ?_
          intro ha hb hz6_2 hn6_2 hm6_2
          have hf6_2_0 : w6.cell? ⟨w.heap.size, 0, none⟩ = some (.int .i64 0) := (ha _).trans (by first | with_reducible assumption | (simp (maxDischargeDepth := 7) [go_sem]; done) | (simp (maxDischargeDepth := 7) [go_sem, *]; done))
          have hf6_2_1 : w6.cell? ⟨w.heap.size, 1, none⟩ = some (.int .i64 0) := (ha _).trans (by first | with_reducible assumption | (simp (maxDischargeDepth := 7) [go_sem]; done) | (simp (maxDischargeDepth := 7) [go_sem, *]; done))
          try have hg6_2 : ∀ o, w6.frozen? ⟨w.heap.size, o, none⟩ = false := by intro o; rw [hb]; first | (simp (maxDischargeDepth := 7) [go_sem]; done) | (simp (maxDischargeDepth := 7) [go_sem, *]; done)
          clear ha hb
          try clear hf_c9_0_0
          try clear hf_c9_0_1
          try clear hf_c9_1_0
          try clear hf_c9_1_1
          try clear hf_c9_2_0
          try clear hf_c9_2_1
          try clear hg_c9_0
          try clear hg_c9_1
          try clear hg_c9_2
          go_wp2_with fail
          with_reducible refine (ref_int_no g (by omega) _).mono ?_
          rintro e w7 ⟨rfl, hk7⟩
          refine kuz (b := b1_0) hk7 (by first | (simp; done) | (simp; omega) | omega) ?_
          intro ha hb hz7_0 hn7_0 hm7_0
          have hf7_0_0 : w7.cell? ⟨b1_0, 0, none⟩ = some (.int .i64 (wh (l))) := (ha _).trans (by first | with_reducible assumption | (simp (maxDischargeDepth := 7) [go_sem]; done) | (simp (maxDischargeDepth := 7) [go_sem, *]; done))
          have hf7_0_1 : w7.cell? ⟨b1_0, 1, none⟩ = some (.int .u64 (wl (l))) := (ha _).trans (by first | with_reducible assumption | (simp (maxDischargeDepth := 7) [go_sem]; done) | (simp (maxDischargeDepth := 7) [go_sem, *]; done))
          try have hg7_0 : ∀ o, w7.frozen? ⟨b1_0, o, none⟩ = false := by intro o; rw [hb]; first | (simp (maxDischargeDepth := 7) [go_sem]; done) | (simp (maxDischargeDepth := 7) [go_sem, *]; done)
          clear ha hb
          refine kuz (b := b1_1) hk7 (by first | (simp; done) | (simp; omega) | omega) ?_
          intro ha hb hz7_1 hn7_1 hm7_1
          have hf7_1_0 : w7.cell? ⟨b1_1, 0, none⟩ = some (.int .i64 (wh (g))) := (ha _).trans (by first | with_reducible assumption | (simp (maxDischargeDepth := 7) [go_sem]; done) | (simp (maxDischargeDepth := 7) [go_sem, *]; done))
          have hf7_1_1 : w7.cell? ⟨b1_1, 1, none⟩ = some (.int .u64 (wl (g))) := (ha _).trans (by first | with_reducible assumption | (simp (maxDischargeDepth := 7) [go_sem]; done) | (simp (maxDischargeDepth := 7) [go_sem, *]; done))
          try have hg7_1 : ∀ o, w7.frozen? ⟨b1_1, o, none⟩ = false := by intro o; rw [hb]; first | (simp (maxDischargeDepth := 7) [go_sem]; done) | (simp (maxDischargeDepth := 7) [go_sem, *]; done)
          clear ha hb
          refine kuz (b := w.heap.size) hk7 (by first | (simp; done) | (simp; omega) | omega) ?_
          intro ha hb hz7_2 hn7_2 hm7_2
          have hf7_2_0 : w7.cell? ⟨w.heap.size, 0, none⟩ = some (.int .i64 0) := (ha _).trans (by first | with_reducible assumption | (simp (maxDischargeDepth := 7) [go_sem]; done) | (simp (maxDischargeDepth := 7) [go_sem, *]; done))
          have hf7_2_1 : w7.cell? ⟨w.heap.size, 1, none⟩ = some (.int .i64 0) := (ha _).trans (by first | with_reducible assumption | (simp (maxDischargeDepth := 7) [go_sem]; done) | (simp (maxDischargeDepth := 7) [go_sem, *]; done))
          try have hg7_2 : ∀ o, w7.frozen? ⟨w.heap.size, o, none⟩ = false := by intro o; rw [hb]; first | (simp (maxDischargeDepth := 7) [go_sem]; done) | (simp (maxDischargeDepth := 7) [go_sem, *]; done)
          clear ha hb
          try clear hf6_0_0
          try clear hf6_0_1
          try clear hf6_1_0
          try clear hf6_1_1
          try clear hf6_2_0
          try clear hf6_2_1
          try clear hg6_0
          try clear hg6_1
          try clear hg6_2
          try clear hz6_1
          try clear hz6_2
          go_wp2_with fail
          all_goals exact bodyPost_ret (v := .tuple #[.agg #[.int .i64 0, .int .i64 0], .int .i64 2]) (by first | (simp [results, Try.results78, go_sem]; done) | (simp (maxDischargeDepth := 7) [results, Try.results78, go_sem, *]; done)) rfl ⟨rfl, (by repeat (first | with_reducible exact Kept.refl _ | with_reducible assumption | with_reducible refine Kept.setCell ?_ (by first | (simp; done) | (simp; omega) | omega) _ | with_reducible refine Kept.alloc ?_ _ | with_reducible refine Kept.drewN ?_ _ | with_reducible refine Kept.drew ?_ | with_reducible refine Kept.trans ?_ (by with_reducible assumption) | with_reducible refine Kept.dr ?_ (by with_reducible assumption)))⟩
end Go.Proofs.Ytinpmooihjdbgaa
