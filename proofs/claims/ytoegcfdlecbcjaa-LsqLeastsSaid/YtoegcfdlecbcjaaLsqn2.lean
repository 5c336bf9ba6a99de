/-
  Own contracts: the document of layer 42: nearest integers.
-/
import Derived.Test.YtoegcfdlecbcjaaLsqb
import Derived.Test.YtoegcfdlecbcjaaLsqm
import Derived.Test.YtoegcfdlecbcjaaWids
import Derived.Test.YtoegcfdlecbcjaaWidzn
import Derived.WalkKit
import Derived.ProofKit
import Derived.OpenShut
import Derived.WalkLawsBesides
import Derived.WalkSpells
import Derived.Lib.Hide
import Derived.Deep.DeepCutAuto
import Derived.Deep.CutBlock
import Derived.Deep.QuietTactic
import Derived.BigQuiet
import Derived.Handy
import Derived.StillTailTactics
import Derived.IntWalk
import Derived.LoopN
import Derived.Deep.RegionHeld3
namespace Go.Proofs.Ytoegcfdlecbcjaa
open Go.ChangeShapes Go.WideShapes Go.ChangeAt Go.RowKit
set_option linter.unusedVariables false
set_option linter.unusedSimpArgs false
set_option maxHeartbeats 2000000 in
set_option maxRecDepth 100000 in
theorem ref_int_ok (v : Int) (h : -9223372036854775808 ≤ v ∧ v ≤ 9223372036854775807) (w : World) : Calls Try.prog 60 #[.agg #[.int .i64 (wh (v)), .int .u64 (wl (v))]] w fun e w' => e = .returned (.tuple #[.int .i64 v, .bool true]) ∧ Kept w w' := by
  obtain ⟨ev, l0, l1⟩ := wv v
  obtain ⟨c, hc⟩ : ∃ c, wrap64 (wl v) = c := ⟨_, rfl⟩
  have c0 : -9223372036854775808 ≤ c := by rw [← hc]; unfold wrap64; omega
  have c1 : c ≤ 9223372036854775807 := by rw [← hc]; unfold wrap64; omega
  have HO := ref_of_w c c0 c1
  have wlc : wl c = wl v := by rw [← hc]; unfold wl wrap64; omega
  rw [wlc] at HO
  have hc2 : IntKind.i64.wrap (wl v) = c := (IntWalk.i64_left _).trans hc
  have HC := Lib.hid hc
  have cv : c = v := by rw [← hc]; exact wrap_wl v h.1 h.2
  have whc : wh c = wh v := by rw [cv]
  rw [whc] at HO
  have eqz : ∀ w, (Op.equalIn 10000 34 (.agg #[.int .i64 (wh v), .int .u64 (wl v)]) (.agg #[.int .i64 (wh v), .int .u64 (wl v)])).run Try.prog w = .ok true w := fun w => by rw [eqW]; simp
  have HV := Lib.hid cv
  clear cv whc ev h wlc
  generalize wl v = L at *; generalize wh v = H at *
  have HO2 : Hid (∀ w, Calls Try.prog 59 #[.int .i64 (IntKind.i64.wrap L)] w fun e w' => e = .returned (.agg #[.int .i64 H, .int .u64 L]) ∧ Kept w w') := Lib.hid (by rw [hc2]; exact HO)
  clear HO hc2
  go_enter Try.func60, Try.ntmps60
  go_wp2_with fail
  go_region_held3 (fun W => W.cell? ⟨w.heap.size, 0, none⟩ = some (.int .i64 H) ∧ W.cell? ⟨w.heap.size, 1, none⟩ = some (.int .u64 L)) (first | (go_keep; done) | (simp (maxDischargeDepth := 9) [*, World.cell?_alloc_some, World.cell?_setCell_far]; done) | (simp (maxDischargeDepth := 9) [go_sem, *]; done)) (first | (go_at_call 59; (first | with_reducible refine (HO2.out _).mono ?_); rintro e w' ⟨rfl, hk⟩; have hz := hk.size; (try (refine kuse (b := w.heap.size) hk (by first | (simp; done) | (simp; omega) | omega) ?_; intro hq0 hg0; have hy0 : w.heap.size < w'.heap.size := (by (try simp at hz); omega); have hn0 : ¬ w.heap.size = w'.heap.size := (by omega); have hm0 : ¬ w.heap.size = w'.heap.size + 1 := (by omega); refine withF (p := w'.cell? ⟨w.heap.size, 0, none⟩ = some (.int .i64 H)) (by first | (rw [hq0]; with_reducible assumption) | (simp (maxDischargeDepth := 7) [go_sem, hq0]; done) | (simp (maxDischargeDepth := 7) [go_sem, hq0, *]; done) | fail) ?_; intro ff00; refine withF (p := w'.cell? ⟨w.heap.size, 1, none⟩ = some (.int .u64 L)) (by first | (rw [hq0]; with_reducible assumption) | (simp (maxDischargeDepth := 7) [go_sem, hq0]; done) | (simp (maxDischargeDepth := 7) [go_sem, hq0, *]; done) | fail) ?_; intro ff01))))
  all_goals (try go_wp2_with fail)
  all_goals go_ret2
  all_goals refine ⟨?_, (by repeat (first | with_reducible exact Kept.refl _ | with_reducible assumption | with_reducible refine Kept.setCell ?_ (by first | (simp; done) | (simp; omega) | omega) _ | with_reducible refine Kept.alloc ?_ _ | with_reducible refine Kept.drewN ?_ _ | with_reducible refine Kept.drew ?_ | with_reducible refine Kept.trans ?_ (by with_reducible assumption) | with_reducible refine Kept.dr ?_ (by with_reducible assumption)))⟩
  all_goals (show Ending.returned (.tuple #[.int .i64 (wrap64 L), .bool true]) = _; rw [HC.out, HV.out])
set_option maxHeartbeats 2000000 in
set_option maxRecDepth 100000 in
theorem ref_int_no (v : Int) (h : v < -9223372036854775808 ∨ 9223372036854775807 < v) (w : World) : Calls Try.prog 60 #[.agg #[.int .i64 (wh (v)), .int .u64 (wl (v))]] w fun e w' => e = .returned (.tuple #[.int .i64 0, .bool false]) ∧ Kept w w' := by
  obtain ⟨ev, l0, l1⟩ := wv v
  obtain ⟨c, hc⟩ : ∃ c, wrap64 (wl v) = c := ⟨_, rfl⟩
  have c0 : -9223372036854775808 ≤ c := by rw [← hc]; unfold wrap64; omega
  have c1 : c ≤ 9223372036854775807 := by rw [← hc]; unfold wrap64; omega
  have HO := ref_of_w c c0 c1
  have wlc : wl c = wl v := by rw [← hc]; unfold wl wrap64; omega
  rw [wlc] at HO
  have hc2 : IntKind.i64.wrap (wl v) = c := (IntWalk.i64_left _).trans hc
  have HC := Lib.hid hc
  have whc : wh c ≠ wh v := by
    intro e
    have := w_ext e wlc
    omega
  have n0 : (wh c == wh v && wl v == wl v) = false := by rw [Bool.and_eq_false_iff]; left; rw [beq_eq_false_iff_ne]; exact whc
  have eqz : ∀ w, (Op.equalIn 10000 34 (.agg #[.int .i64 (wh c), .int .u64 (wl v)]) (.agg #[.int .i64 (wh v), .int .u64 (wl v)])).run Try.prog w = .ok false w := fun w => by rw [eqW, n0]
  clear n0 whc wlc ev h
  generalize wh c = C at *
  generalize wl v = L at *; generalize wh v = H at *
  have HO2 : Hid (∀ w, Calls Try.prog 59 #[.int .i64 (IntKind.i64.wrap L)] w fun e w' => e = .returned (.agg #[.int .i64 C, .int .u64 L]) ∧ Kept w w') := Lib.hid (by rw [hc2]; exact HO)
  clear HO hc2
  go_enter Try.func60, Try.ntmps60
  go_wp2_with fail
  go_region_held3 (fun W => W.cell? ⟨w.heap.size, 0, none⟩ = some (.int .i64 H) ∧ W.cell? ⟨w.heap.size, 1, none⟩ = some (.int .u64 L)) (first | (go_keep; done) | (simp (maxDischargeDepth := 9) [*, World.cell?_alloc_some, World.cell?_setCell_far]; done) | (simp (maxDischargeDepth := 9) [go_sem, *]; done)) (first | (go_at_call 59; (first | with_reducible refine (HO2.out _).mono ?_); rintro e w' ⟨rfl, hk⟩; have hz := hk.size; (try (refine kuse (b := w.heap.size) hk (by first | (simp; done) | (simp; omega) | omega) ?_; intro hq0 hg0; have hy0 : w.heap.size < w'.heap.size := (by (try simp at hz); omega); have hn0 : ¬ w.heap.size = w'.heap.size := (by omega); have hm0 : ¬ w.heap.size = w'.heap.size + 1 := (by omega); refine withF (p := w'.cell? ⟨w.heap.size, 0, none⟩ = some (.int .i64 H)) (by first | (rw [hq0]; with_reducible assumption) | (simp (maxDischargeDepth := 7) [go_sem, hq0]; done) | (simp (maxDischargeDepth := 7) [go_sem, hq0, *]; done) | fail) ?_; intro ff00; refine withF (p := w'.cell? ⟨w.heap.size, 1, none⟩ = some (.int .u64 L)) (by first | (rw [hq0]; with_reducible assumption) | (simp (maxDischargeDepth := 7) [go_sem, hq0]; done) | (simp (maxDischargeDepth := 7) [go_sem, hq0, *]; done) | fail) ?_; intro ff01))))
  all_goals (try go_wp2_with fail)
  all_goals (go_ret2; exact ⟨rfl, (by repeat (first | with_reducible exact Kept.refl _ | with_reducible assumption | with_reducible refine Kept.setCell ?_ (by first | (simp; done) | (simp; omega) | omega) _ | with_reducible refine Kept.alloc ?_ _ | with_reducible refine Kept.drewN ?_ _ | with_reducible refine Kept.drew ?_ | with_reducible refine Kept.trans ?_ (by with_reducible assumption) | with_reducible refine Kept.dr ?_ (by with_reducible assumption)))⟩)
theorem own_s7 {W : World} {b : Nat} {u0 u1 u2 u3 u4 u5 u6 v0 v1 v2 v3 v4 v5 v6 : Value} (o : OwnB W b [u0, u1, u2, u3, u4, u5, u6]) : OwnB (((((((W.setCell ⟨b, 0, none⟩ v0).setCell ⟨b, 1, none⟩ v1).setCell ⟨b, 2, none⟩ v2).setCell ⟨b, 3, none⟩ v3).setCell ⟨b, 4, none⟩ v4).setCell ⟨b, 5, none⟩ v5).setCell ⟨b, 6, none⟩ v6) b [v0, v1, v2, v3, v4, v5, v6] := own_set7 o rfl
def nb (q : Int) : Bool := decide (-9223372036854775808 ≤ q ∧ q ≤ 9223372036854775807)
def nv (q : Int) : Int := if nb q then q else 0
theorem nv_t {q : Int} (h : nb q = true) : nv q = q := by unfold nv; rw [h]; rfl
theorem nv_f {q : Int} (h : nb q = false) : nv q = 0 := by unfold nv; rw [h]; rfl
theorem pok_nb {x y : Int} (h : pok x y = true) : nb x = true ∧ nb y = true := by
  have := pokk h
  exact ⟨decide_eq_true (by omega), decide_eq_true (by omega)⟩
theorem ref_int_w (v : Int) (w : World) : Calls Try.prog 60 #[.agg #[.int .i64 (wh v), .int .u64 (wl v)]] w fun e w' => e = .returned (.tuple #[.int .i64 (nv v), .bool (nb v)]) ∧ Kept w w' := by
  cases h : nb v
  · rw [nv_f h]; exact ref_int_no v (by have := of_decide_eq_false h; omega) w
  · rw [nv_t h]; have g := of_decide_eq_true h; exact ref_int_ok v g w
set_option maxHeartbeats 2000000 in
set_option maxRecDepth 100000 in
theorem minor_w (a b c d : Int) (a0 : -9223372036854775808 ≤ a) (a1 : a ≤ 9223372036854775807) (b0 : -9223372036854775808 ≤ b) (b1 : b ≤ 9223372036854775807) (c0 : -9223372036854775808 ≤ c) (c1 : c ≤ 9223372036854775807) (d0 : -9223372036854775808 ≤ d) (d1 : d ≤ 9223372036854775807) (f0 : -170141183460469231731687303715884105728 ≤ a * b) (f1 : a * b < 170141183460469231731687303715884105728) (g0 : -170141183460469231731687303715884105728 ≤ c * d) (g1 : c * d < 170141183460469231731687303715884105728) (k0 : -170141183460469231731687303715884105728 ≤ a * b - c * d) (k1 : a * b - c * d < 170141183460469231731687303715884105728) (w : World) : Calls Try.prog 57 #[.int .i64 a, .int .i64 b, .int .i64 c, .int .i64 d] w fun e w' => e = .returned (.agg #[.int .i64 (wh (a * b - c * d)), .int .u64 (wl (a * b - c * d))]) ∧ Kept w w' := by
  have HM1 := Lib.hid (refw_mul_w a b a0 a1 b0 b1)
  have HM2 := Lib.hid (refw_mul_w c d c0 c1 d0 d1)
  have HS0 := refw_sub_w (a * b) (c * d) f0 f1 g0 g1
  rw [(wfit_yes k0 k1).1, (wfit_yes k0 k1).2] at HS0
  have HS := Lib.hid HS0
  clear HS0 f0 f1 g0 g1 k0 k1
  generalize a * b = S at *; generalize c * d = T at *
  obtain ⟨V, hV⟩ : ∃ V, S - T = V := ⟨_, rfl⟩
  rw [hV] at HS
  rw [hV]
  clear hV
  generalize wh S = A at *; generalize wl S = e1 at *; generalize wh T = B at *; generalize wl T = e2 at *
  go_enter Try.func57, Try.ntmps57
  go_wp2_with fail
  with_reducible refine (HM1.out _).mono ?_
  rintro e w1 ⟨rfl, hk1⟩
  refine kuz (b := w.heap.size) hk1 (by first | (simp; done) | (simp; omega) | omega) ?_
  intro ha hb hz1_0 hn1_0 hm1_0
  have hf1_0_0 : w1.cell? ⟨w.heap.size, 0, none⟩ = some (.int .i64 0) := (ha _).trans (by first | with_reducible assumption | (simp (maxDischargeDepth := 7) [go_sem]; done) | (simp (maxDischargeDepth := 7) [go_sem, *]; done))
  have hf1_0_1 : w1.cell? ⟨w.heap.size, 1, none⟩ = some (.int .u64 0) := (ha _).trans (by first | with_reducible assumption | (simp (maxDischargeDepth := 7) [go_sem]; done) | (simp (maxDischargeDepth := 7) [go_sem, *]; done))
  try have hg1_0 : ∀ o, w1.frozen? ⟨w.heap.size, o, none⟩ = false := by intro o; rw [hb]; first | (simp (maxDischargeDepth := 7) [go_sem]; done) | (simp (maxDischargeDepth := 7) [go_sem, *]; done)
  clear ha hb
  go_wp2_with fail
  with_reducible refine (HM2.out _).mono ?_
  rintro e w2 ⟨rfl, hk2⟩
  refine kuz (b := w.heap.size) hk2 (by first | (simp; done) | (simp; omega) | omega) ?_
  intro ha hb hz2_0 hn2_0 hm2_0
  have hf2_0_0 := (ha _).trans hf1_0_0
  have hf2_0_1 := (ha _).trans hf1_0_1
  have hg2_0 := fun o => (hb o).trans (hg1_0 o)
  clear ha hb
  try clear hf1_0_0
  try clear hf1_0_1
  try clear hg1_0
  go_wp2_with fail
  with_reducible refine (HS.out _).mono ?_
  rintro e w3 ⟨rfl, hk3⟩
  refine kuz (b := w.heap.size) hk3 (by first | (simp; done) | (simp; omega) | omega) ?_
  intro ha hb hz3_0 hn3_0 hm3_0
  have hf3_0_0 := (ha _).trans hf2_0_0
  have hf3_0_1 := (ha _).trans hf2_0_1
  have hg3_0 := fun o => (hb o).trans (hg2_0 o)
  clear ha hb
  try clear hf2_0_0
  try clear hf2_0_1
  try clear hg2_0
  go_wp2_with fail
  all_goals exact bodyPost_ret (v := .agg #[.int .i64 (wh (V)), .int .u64 (wl (V))]) (by first | (simp [results, Try.results57, go_sem]; done) | (simp (maxDischargeDepth := 7) [results, Try.results57, go_sem, *]; done)) rfl ⟨rfl, (by repeat (first | with_reducible exact Kept.refl _ | with_reducible assumption | with_reducible refine Kept.setCell ?_ (by first | (simp; done) | (simp; omega) | omega) _ | with_reducible refine Kept.alloc ?_ _ | with_reducible refine Kept.drewN ?_ _ | with_reducible refine Kept.drew ?_ | with_reducible refine Kept.trans ?_ (by with_reducible assumption) | with_reducible refine Kept.dr ?_ (by with_reducible assumption)))⟩
set_option maxHeartbeats 2000000 in
set_option maxRecDepth 100000 in
theorem ref_near_w (x d : Int) (hd : 0 < d) (d1 : d ≤ 9223372036854775807) (x0 : -85070591730234615865843651857942052864 ≤ x) (x1 : x ≤ 85070591730234615865843651857942052864) (w : World) : Calls Try.prog 37 #[.agg #[.int .i64 (wh (x)), .int .u64 (wl (x))], .int .i64 d] w fun e w' => e = .returned (.tuple #[.int .i64 (nv (nq x d)), .bool (nb (nq x d))]) ∧ Kept w w' := by
  obtain ⟨e1, e2, q0, q1⟩ := wq_nq (x := x) hd x0 x1
  have HN := ref_Nearest_w x d (by omega) (by omega) (by omega) (by omega)
  rw [e1, e2] at HN
  have HO := ref_of_w d (by omega) d1
  clear e1 e2
  obtain ⟨Q, hQ⟩ : ∃ Q, nq x d = Q := ⟨_, rfl⟩
  rw [hQ] at HN q0 q1
  rw [hQ]
  clear hQ
  have HHN := Lib.hid HN
  have HHO := Lib.hid HO
  clear HN HO
  have HI := Lib.hid (ref_int_w Q)
  generalize nv Q = NV at *
  generalize nb Q = NB at *
  generalize hA : wh x = A at *; generalize ha : wl x = a at *
  generalize wh d = B at *; generalize wl d = b at *
  generalize wh Q = C at *; generalize wl Q = g at *
  clear hA ha
  go_enter Try.func37, Try.ntmps37
  go_wp2_with fail
  have B0 : OwnB (w.alloc (.cells #[.int .i64 A, .int .u64 a] 34)) (w.heap.size) [.int .i64 A, .int .u64 a] := own_alloc _ [.int .i64 A, .int .u64 a] 34
  have HB0_0 := Lib.hid B0
  clear B0
  go_upto_region 1 with (fail)
  go_cut [6, 7] (fun p0 c0 wx => ∃ b0 : Nat, p0 = .pointer (some ⟨b0, 0, none⟩) ∧ c0 = .bool true ∧ w.heap.size < b0 ∧ OwnB wx (b0) [.int .i64 C, .int .u64 g] ∧ OwnB wx (w.heap.size) [.int .i64 A, .int .u64 a] ∧ Kept (w.alloc (.cells #[.int .i64 A, .int .u64 a] 34)) wx)
  case first =>
    go_region_held3 (fun W => W.cell? ⟨w.heap.size, 0, none⟩ = some (.int .i64 A) ∧ W.cell? ⟨w.heap.size, 1, none⟩ = some (.int .u64 a)) (first | (go_keep; done) | (simp (maxDischargeDepth := 9) [*, World.cell?_alloc_some, World.cell?_setCell_far]; done) | (simp (maxDischargeDepth := 9) [go_sem, *]; done)) (first | (go_at_call 59; (with_reducible refine (HHO.out _).mono ?_); rintro e n0 ⟨rfl, hk⟩; have hz := hk.size; (try (refine kuse (b := w.heap.size) hk (by first | (simp; done) | (simp; omega) | omega) ?_; intro hq hg; have hy : w.heap.size < n0.heap.size := (by (try simp at hz); omega); have hn : ¬ w.heap.size = n0.heap.size := (by omega); have hm : ¬ w.heap.size = n0.heap.size + 1 := (by omega); have hn' : ¬ n0.heap.size = w.heap.size := (by omega); have hm' : ¬ n0.heap.size + 1 = w.heap.size := (by omega))); (try (have hle : w.heap.size ≤ n0.heap.size := (by (try simp at hz); omega))); (try (refine kuse (b := w.heap.size + 1) hk (by first | (simp; done) | (simp; omega) | omega) ?_; intro hq hg; have hy : w.heap.size + 1 < n0.heap.size := (by (try simp at hz); omega))); (try (refine withF (p := n0.cell? ⟨w.heap.size, 0, none⟩ = some (.int .i64 A)) (by first | (simp (maxDischargeDepth := 7) [go_sem, *]; done) | fail) ?_; intro ff)); (try (refine withF (p := n0.cell? ⟨w.heap.size, 1, none⟩ = some (.int .u64 a)) (by first | (simp (maxDischargeDepth := 7) [go_sem, *]; done) | fail) ?_; intro ff))) | (go_at_call 58; (with_reducible refine (HHN.out _).mono ?_); rintro e n1 ⟨rfl, hk⟩; have hz := hk.size; (try (refine kuse (b := w.heap.size) hk (by first | (simp; done) | (simp; omega) | omega) ?_; intro hq hg; have hy : w.heap.size < n1.heap.size := (by (try simp at hz); omega); have hn : ¬ w.heap.size = n1.heap.size := (by omega); have hm : ¬ w.heap.size = n1.heap.size + 1 := (by omega); have hn' : ¬ n1.heap.size = w.heap.size := (by omega); have hm' : ¬ n1.heap.size + 1 = w.heap.size := (by omega))); (try (have hle : w.heap.size ≤ n1.heap.size := (by (try simp at hz); omega))); (try (have hle : n0.heap.size ≤ n1.heap.size := (by (try simp at hz); omega))); (try (refine kuse (b := n0.heap.size) hk (by first | (simp; done) | (simp; omega) | omega) ?_; intro hq hg; have hy : n0.heap.size < n1.heap.size := (by (try simp at hz); omega))); (try (refine kuse (b := w.heap.size + 1) hk (by first | (simp; done) | (simp; omega) | omega) ?_; intro hq hg; have hy : w.heap.size + 1 < n1.heap.size := (by (try simp at hz); omega))); (try (refine withF (p := n1.cell? ⟨w.heap.size, 0, none⟩ = some (.int .i64 A)) (by first | (simp (maxDischargeDepth := 7) [go_sem, *]; done) | fail) ?_; intro ff)); (try (refine withF (p := n1.cell? ⟨w.heap.size, 1, none⟩ = some (.int .u64 a)) (by first | (simp (maxDischargeDepth := 7) [go_sem, *]; done) | fail) ?_; intro ff))))
    all_goals (try go_wp2_with fail)
    all_goals (go_meet; case rel => refine (fun (hkx : Kept (w.alloc (.cells #[.int .i64 A, .int .u64 a] 34)) _) => ⟨_, rfl, rfl, (by first | with_reducible assumption | omega | (simp; omega)), (by repeat (first | with_reducible exact own_alloc _ [.int .i64 C, .int .u64 g] 34 | with_reducible exact own_alloc _ [.int .i64 0, .int .u64 0] 34 | ((with_reducible refine own_allocE _ [.int .i64 C, .int .u64 g] 34 _ ?_); (simp; done)) | ((with_reducible refine own_allocE _ [.int .i64 0, .int .u64 0] 34 _ ?_); (simp; done)) | with_reducible refine own_set2 (us := [.int .i64 0, .int .u64 0]) ?_ rfl | with_reducible refine OwnB.other2 ?_ (by first | with_reducible assumption | omega | (simp; done) | (simp; omega)) | with_reducible refine OwnB.alloc ?_ _ | with_reducible refine OwnB.drew ?_ | with_reducible refine OwnB.drewN ?_ _ | with_reducible refine OwnB.kept (by with_reducible assumption) ?_)), OwnB.kept hkx HB0_0.out, hkx⟩) ?_; exact (by repeat (first | with_reducible exact Kept.refl _ | with_reducible assumption | with_reducible refine Kept.set12 ?_ (by first | with_reducible assumption | omega | (simp; done) | (simp; omega)) | with_reducible refine Kept.set11 ?_ (by first | with_reducible assumption | omega | (simp; done) | (simp; omega)) | with_reducible refine Kept.set10 ?_ (by first | with_reducible assumption | omega | (simp; done) | (simp; omega)) | with_reducible refine Kept.set9 ?_ (by first | with_reducible assumption | omega | (simp; done) | (simp; omega)) | with_reducible refine Kept.set8 ?_ (by first | with_reducible assumption | omega | (simp; done) | (simp; omega)) | with_reducible refine Kept.set7 ?_ (by first | with_reducible assumption | omega | (simp; done) | (simp; omega)) | with_reducible refine Kept.set6 ?_ (by first | with_reducible assumption | omega | (simp; done) | (simp; omega)) | with_reducible refine Kept.set5 ?_ (by first | with_reducible assumption | omega | (simp; done) | (simp; omega)) | with_reducible refine Kept.set4 ?_ (by first | with_reducible assumption | omega | (simp; done) | (simp; omega)) | with_reducible refine Kept.set3 ?_ (by first | with_reducible assumption | omega | (simp; done) | (simp; omega)) | with_reducible refine Kept.set2 ?_ (by first | with_reducible assumption | omega | (simp; done) | (simp; omega)) | with_reducible refine Kept.setCell ?_ (by first | with_reducible assumption | omega | (simp; done) | (simp; omega)) _ | with_reducible refine Kept.alloc ?_ _ | with_reducible refine Kept.drewN ?_ _ | with_reducible refine Kept.drew ?_ | with_reducible refine Kept.trans ?_ (by with_reducible assumption) | with_reducible refine Kept.dr ?_ (by with_reducible assumption))))
  case rest =>
  obtain ⟨b1_0, rfl, rfl, lt1_0, O1_0, O1_1, hkc1⟩ := hcut
  obtain ⟨hz_c1_0, hg_c1_0, hf_c1_0_0, hf_c1_0_1, _⟩ := O1_0
  obtain ⟨hz_c1_1, hg_c1_1, hf_c1_1_0, hf_c1_1_1, _⟩ := O1_1
  go_wp2_with fail
  with_reducible refine (HI.out _).mono ?_
  rintro e w1 ⟨rfl, hk1⟩
  refine kuz (b := b1_0) hk1 (by first | (simp; done) | (simp; omega) | omega) ?_
  intro ha hb hz1_0 hn1_0 hm1_0
  have hf1_0_0 : w1.cell? ⟨b1_0, 0, none⟩ = some (.int .i64 C) := (ha _).trans (by first | with_reducible assumption | (simp (maxDischargeDepth := 7) [go_sem]; done) | (simp (maxDischargeDepth := 7) [go_sem, *]; done))
  have hf1_0_1 : w1.cell? ⟨b1_0, 1, none⟩ = some (.int .u64 g) := (ha _).trans (by first | with_reducible assumption | (simp (maxDischargeDepth := 7) [go_sem]; done) | (simp (maxDischargeDepth := 7) [go_sem, *]; done))
  try have hg1_0 : ∀ o, w1.frozen? ⟨b1_0, o, none⟩ = false := by intro o; rw [hb]; first | (simp (maxDischargeDepth := 7) [go_sem]; done) | (simp (maxDischargeDepth := 7) [go_sem, *]; done)
  clear ha hb
  refine kuz (b := w.heap.size) hk1 (by first | (simp; done) | (simp; omega) | omega) ?_
  intro ha hb hz1_1 hn1_1 hm1_1
  have hf1_1_0 : w1.cell? ⟨w.heap.size, 0, none⟩ = some (.int .i64 A) := (ha _).trans (by first | with_reducible assumption | (simp (maxDischargeDepth := 7) [go_sem]; done) | (simp (maxDischargeDepth := 7) [go_sem, *]; done))
  have hf1_1_1 : w1.cell? ⟨w.heap.size, 1, none⟩ = some (.int .u64 a) := (ha _).trans (by first | with_reducible assumption | (simp (maxDischargeDepth := 7) [go_sem]; done) | (simp (maxDischargeDepth := 7) [go_sem, *]; done))
  try have hg1_1 : ∀ o, w1.frozen? ⟨w.heap.size, o, none⟩ = false := by intro o; rw [hb]; first | (simp (maxDischargeDepth := 7) [go_sem]; done) | (simp (maxDischargeDepth := 7) [go_sem, *]; done)
  clear ha hb
  try clear hf_c1_0_0
  try clear hf_c1_0_1
  try clear hf_c1_1_0
  try clear hf_c1_1_1
  try clear hg_c1_0
  try clear hg_c1_1
  go_wp2_with fail
  all_goals (go_ret2; exact ⟨rfl, (by repeat (first | with_reducible exact Kept.refl _ | with_reducible assumption | with_reducible refine Kept.setCell ?_ (by first | (simp; done) | (simp; omega) | omega) _ | with_reducible refine Kept.alloc ?_ _ | with_reducible refine Kept.drewN ?_ _ | with_reducible refine Kept.drew ?_ | with_reducible refine Kept.trans ?_ (by with_reducible assumption) | with_reducible refine Kept.dr ?_ (by with_reducible assumption)))⟩)
end Go.Proofs.Ytoegcfdlecbcjaa
