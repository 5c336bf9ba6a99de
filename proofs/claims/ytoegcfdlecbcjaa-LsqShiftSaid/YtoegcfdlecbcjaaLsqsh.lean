/-
  Own contracts: the law LsqShift.
-/
import Derived.Test.YtoegcfdlecbcjaaLsqi
import Derived.Test.YtoegcfdlecbcjaaLsqa6
import Derived.Test.YtoegcfdlecbcjaaLsqh
import Derived.Test.YtoegcfdlecbcjaaLsqz2
import Derived.Laws.AppendOwn
import Derived.Laws.OwnMore
import Derived.OwnWalk
import Derived.OneCell
import Derived.WalkKit
import Derived.ProofKit
import Derived.OpenShut
import Derived.WalkLawsBesides
import Derived.WalkSpells
import Derived.Lib.Hide
import Derived.Deep.DeepCutAuto
import Derived.Deep.CutBlock
import Derived.Deep.QuietTactic
import Derived.BigQuiet
import Derived.Handy
import Derived.StillTailTactics
import Derived.IntWalk
import Derived.LoopN
import Derived.Deep.RegionHeld3
namespace Go.Proofs.Ytoegcfdlecbcjaa
open Go.ChangeShapes Go.WideShapes Go.ChangeAt Go.RowKit
set_option linter.unusedVariables false
set_option linter.unusedSimpArgs false
theorem six_new {V : World} {q0 q1 q2 q3 q4 q5 : Int} : ∀ j u, [Value.int .i64 q0, .int .i64 q1, .int .i64 q2, .int .i64 q3, .int .i64 q4, .int .i64 q5][j]? = some u → (V.alloc (.cells #[.int .i64 q0, .int .i64 q1, .int .i64 q2, .int .i64 q3, .int .i64 q4, .int .i64 q5] 44)).cell? ((⟨V.heap.size, 0, none⟩ : Addr).add j) = some u := by
  intro j u e
  obtain ⟨hz, hg, c0, c1, c2, c3, c4, c5, _⟩ := own_alloc V [.int .i64 q0, .int .i64 q1, .int .i64 q2, .int .i64 q3, .int .i64 q4, .int .i64 q5] 44
  rw [add_nil]
  match j, e with
  | 0, e => cases e; exact c0
  | 1, e => cases e; exact c1
  | 2, e => cases e; exact c2
  | 3, e => cases e; exact c3
  | 4, e => cases e; exact c4
  | 5, e => cases e; exact c5
theorem own6_ne {w : World} {base n : Nat} {v : Value} {N : Ms} (h : Own6 w base v n N) (b : Nat) (hb : w.heap.size ≤ b) : v.ownBlock ≠ some b := by
  intro e
  have := (World.ownsRow.lt h b e).2
  omega
theorem sE_shift (N : Ms) (n : Nat) (hn : n ≤ 16) (hd : N.det n ≠ 0) : N.sE n = 0 ∨ N.sE n = 1 ∨ N.sE n = 2 := by
  unfold Ms.sE Ms.chk
  rw [if_neg (show ¬ 16 < n by omega), if_neg hd]
  split <;> (try split) <;> (try split) <;> simp_all
theorem res_bd2 {M : Ms} {i : Nat} (h : M.ok i = true) {x y : Int} (hp : -2000000 ≤ x ∧ x ≤ 2000000 ∧ -2000000 ≤ y ∧ y ≤ 2000000) : (-512000000 ≤ M.a i * x ∧ M.a i * x ≤ 512000000) ∧ (-512000000 ≤ M.b i * y ∧ M.b i * y ≤ 512000000) ∧ (-1024000000 ≤ M.a i * x + M.b i * y ∧ M.a i * x + M.b i * y ≤ 1024000000) ∧ (-4294967296 ≤ M.z i ∧ M.z i ≤ 4294967296) := by
  obtain ⟨_, _, a0, a1, b0, b1, _, z0, z1, _, _, u0, u1⟩ := mok_yes h
  obtain ⟨x0, x1, y0, y1⟩ := hp
  have h1 := mulb (x := M.a i) (y := x) (p := 256) (q := 2000000) (by omega) a0 a1 x0 x1
  have h2 := mulb (x := M.b i) (y := y) (p := 256) (q := 2000000) (by omega) b0 b1 y0 y1
  omega
set_option maxHeartbeats 4000000 in
set_option maxRecDepth 100000 in
theorem shift_ok (p : Option Addr) (n c b o : Nat) (M : Ms) (m : Nat) (x y : Int) (hl : n ≤ c) (hc : c ≤ maxLen) (hm2 : m ≤ 20) (hmc : (n ≤ 20 ∧ m = n) ∨ (20 < n ∧ m = 20))  (w : World) (hS : SlM w p m b o M) (h1 : M.sE m = 0) (h4 : pok x y = true) : Calls Try.prog 11 #[.slice p n c, .agg #[.int .i64 x, .int .i64 y]] w fun e w' => e = .returned (.bool true) ∧ Kept w w' := by
  have HS := Lib.hid hS
  clear hS
  have HV0 := pval_w x y
  rw [h4] at HV0
  have HV := Lib.hid HV0
  have HC := Lib.hid (solve_good p m c b o M (by unfold maxLen; omega) h1)
  have hpk := pokk h4
  obtain ⟨h11, h12, h13⟩ := Ms.sE_0 h1
  obtain ⟨n16, hall⟩ := Ms.chk_0 h11
  have HALL := Lib.hid hall
  obtain ⟨N, hN⟩ : ∃ N : Ms, N = ⟨M.s, M.a, M.b, fun i => M.z i + (M.a i * x + M.b i * y), M.e, M.u⟩ := ⟨_, rfl⟩
  have hS_ : Shf M N x y m := by rw [hN]; exact ⟨fun _ _ => rfl, fun _ _ => rfl, fun _ _ => rfl, fun _ _ => rfl⟩
  have dn := det_nn n16 hall
  have dp : 0 < M.det m := by omega
  have HF := Lib.hid (And.intro hS_.det (hS_.px dp))
  have hpp := pokk h13
  have HNN := Lib.hid hN
  clear hN hS_ dn HV0 h1 h4 h11 h12 h13 hall
  generalize wh (M.X m) = A at *; generalize wl (M.X m) = e1 at *; generalize wh (M.Y m) = B at *; generalize wl (M.Y m) = e2 at *; generalize M.det m = D at *; generalize M.px m = px at *; generalize M.py m = py at *
  go_enter Try.func11, Try.ntmps11
  go_wp2_with fail
  with_reducible refine (awake_w _).mono ?_
  rintro e w1 ⟨rfl, hk1⟩
  refine kuz (b := w.heap.size) hk1 (by first | (simp; done) | (simp; omega) | omega) ?_
  intro ha hb hz1_0 hn1_0 hm1_0
  have hf1_0_0 : w1.cell? ⟨w.heap.size, 0, none⟩ = some (.int .i64 x) := (ha _).trans (by first | with_reducible assumption | (simp (maxDischargeDepth := 7) [go_sem]; done) | (simp (maxDischargeDepth := 7) [go_sem, *]; done))
  have hf1_0_1 : w1.cell? ⟨w.heap.size, 1, none⟩ = some (.int .i64 y) := (ha _).trans (by first | with_reducible assumption | (simp (maxDischargeDepth := 7) [go_sem]; done) | (simp (maxDischargeDepth := 7) [go_sem, *]; done))
  try have hg1_0 : ∀ o, w1.frozen? ⟨w.heap.size, o, none⟩ = false := by intro o; rw [hb]; first | (simp (maxDischargeDepth := 7) [go_sem]; done) | (simp (maxDischargeDepth := 7) [go_sem, *]; done)
  clear ha hb
  go_wp2_with fail
  with_reducible refine (HV.out _).mono ?_
  rintro e w2 ⟨rfl, hk2⟩
  refine kuz (b := w.heap.size) hk2 (by first | (simp; done) | (simp; omega) | omega) ?_
  intro ha hb hz2_0 hn2_0 hm2_0
  have hf2_0_0 := (ha _).trans hf1_0_0
  have hf2_0_1 := (ha _).trans hf1_0_1
  have hg2_0 := fun o => (hb o).trans (hg1_0 o)
  clear ha hb
  try clear hf1_0_0
  try clear hf1_0_1
  try clear hg1_0
  go_wp2_with fail
  with_reducible refine (cut_w p n c m hl hc hmc _).mono ?_
  rintro e w' ⟨rfl, rfl⟩
  go_wp2_with fail
  refine (HC.out _ (HS.out.kept (by repeat (first | with_reducible exact Kept.refl _ | with_reducible assumption | with_reducible refine Kept.setCell ?_ (by first | (simp; done) | (simp; omega) | omega) _ | with_reducible refine Kept.alloc ?_ _ | with_reducible refine Kept.drewN ?_ _ | with_reducible refine Kept.drew ?_ | with_reducible refine Kept.trans ?_ (by with_reducible assumption) | with_reducible refine Kept.dr ?_ (by with_reducible assumption))))).mono ?_
  rintro e w4 ⟨rfl, hk4⟩
  refine kuz (b := w.heap.size) hk4 (by first | (simp; done) | (simp; omega) | omega) ?_
  intro ha hb hz4_0 hn4_0 hm4_0
  have hf4_0_0 := (ha _).trans hf2_0_0
  have hf4_0_1 := (ha _).trans hf2_0_1
  have hg4_0 := fun o => (hb o).trans (hg2_0 o)
  clear ha hb
  try clear hf2_0_0
  try clear hf2_0_1
  try clear hg2_0
  go_wp2_with fail
  have H0 : OwnB w4 w.heap.size [.int .i64 x, .int .i64 y] := ⟨hz4_0, hg4_0, hf4_0_0, hf4_0_1, trivial⟩
  have hb0 : w.heap.size < w4.heap.size := hz4_0
  have HK0 : Hid (Kept w (w4.alloc (.cells #[.int .i64 A, .int .u64 e1, .int .i64 B, .int .u64 e2, .int .i64 D, .int .i64 px, .int .i64 py] 38))) := Lib.hid (by repeat (first | with_reducible exact Kept.refl _ | with_reducible assumption | with_reducible refine Kept.setCell ?_ (by first | (simp; done) | (simp; omega) | omega) _ | with_reducible refine Kept.alloc ?_ _ | with_reducible refine Kept.drewN ?_ _ | with_reducible refine Kept.drew ?_ | with_reducible refine Kept.trans ?_ (by with_reducible assumption) | with_reducible refine Kept.dr ?_ (by with_reducible assumption)))
  have HOO := Lib.hid (OwnB.alloc H0 (.cells #[.int .i64 A, .int .u64 e1, .int .i64 B, .int .u64 e2, .int .i64 D, .int .i64 px, .int .i64 py] 38))
  go_loopw [7, 32] (fun mv i wr => ∃ k : Nat, i = .int .i64 k ∧ k ≤ m ∧ Hid (Own6 wr (w4.heap.size + 1) mv k N) ∧ Hid (Kept (w4.alloc (.cells #[.int .i64 A, .int .u64 e1, .int .i64 B, .int .u64 e2, .int .i64 D, .int .i64 px, .int .i64 py] 38)) wr)) (fun _ i _ => m - (intOf i).toNat)
  case atStart => exact ⟨0, rfl, Nat.zero_le _, Lib.hid (by first | exact own6_empty _ _ (by simp) N | (have := own6_empty (w4.alloc (.cells #[.int .i64 A, .int .u64 e1, .int .i64 B, .int .u64 e2, .int .i64 D, .int .i64 px, .int .i64 py] 38)) (w4.heap.size + 1) (by simp) N; simpa using this)), Lib.hid (by repeat (first | with_reducible exact Kept.refl _ | with_reducible assumption | with_reducible refine Kept.setCell ?_ (by first | (simp; done) | (simp; omega) | omega) _ | with_reducible refine Kept.alloc ?_ _ | with_reducible refine Kept.drewN ?_ _ | with_reducible refine Kept.drew ?_ | with_reducible refine Kept.trans ?_ (by with_reducible assumption) | with_reducible refine Kept.dr ?_ (by with_reducible assumption)))⟩
  case round =>
    obtain ⟨k, rfl, hk, HW, HK3⟩ := hrel
    have HK : Hid (Kept w wr) := Lib.hid (HK0.out.trans HK3.out)
    by_cases hlt : k < m
    · have rb := res_bd2 (Ms.all_at HALL.out hlt) hpk
      obtain ⟨s, hs⟩ : ∃ x, M.s k = x := ⟨_, rfl⟩
      obtain ⟨a, ha⟩ : ∃ x, M.a k = x := ⟨_, rfl⟩
      obtain ⟨bb, hb⟩ : ∃ x, M.b k = x := ⟨_, rfl⟩
      obtain ⟨z, hz⟩ : ∃ x, M.z k = x := ⟨_, rfl⟩
      obtain ⟨ee, he⟩ : ∃ x, M.e k = x := ⟨_, rfl⟩
      obtain ⟨u, hu⟩ : ∃ x, M.u k = x := ⟨_, rfl⟩
      have hS := HS.out.kept HK.out
      have c0 := hS.cs k hlt
      have c1 := hS.ca k hlt
      have c2 := hS.cb k hlt
      have c3 := hS.cz k hlt
      have c4 := hS.ce k hlt
      have c5 := hS.cu k hlt
      obtain ⟨hp, hb_⟩ := hS.hp (by omega)
      rw [hs] at c0
      rw [ha] at c1
      rw [hb] at c2
      rw [hz] at c3
      rw [he] at c4
      rw [hu] at c5
      clear hS
      subst hp
      rw [ha, hb, hz] at rb
      obtain ⟨⟨_, _⟩, ⟨_, _⟩, ⟨_, _⟩, ⟨_, _⟩⟩ := rb
      have hq : rw6 N (k + 1) = rw6 N k ++ [.int .i64 s, .int .i64 a, .int .i64 bb, .int .i64 (z + (a * x + bb * y)), .int .i64 ee, .int .i64 u] := by
        rw [HNN.out]; show rw6 _ k ++ _ = _; rw [← hs, ← ha, ← hb, ← hz, ← he, ← hu]
      have k0 : IntKind.i64.wrap (a * x) = a * x := IntWalk.i64_in _ (by omega)
      have k1 : IntKind.i64.wrap (bb * y) = bb * y := IntWalk.i64_in _ (by omega)
      have k2 : IntKind.i64.wrap (a * x + bb * y) = a * x + bb * y := IntWalk.i64_in _ (by omega)
      have k3 : IntKind.i64.wrap (z + (a * x + bb * y)) = z + (a * x + bb * y) := IntWalk.i64_in _ (by omega)
      have HQ := Lib.hid hq
      have hsz : w4.heap.size + 1 ≤ wr.heap.size := by have := HK3.out.size; simpa using this
      obtain ⟨hz_0, hg_0, hd0, hd1, _⟩ := OwnB.kept HK3.out HOO.out
      have hkk := HK.out
      clear hs ha hb hz he hu hq HK HS HALL
      go_wp2_with (at_builtin; refine app6 rfl _ _ rfl (base := w4.heap.size + 1) (N := N) (q0 := s) (q1 := a) (q2 := bb) (q3 := z + (a * x + bb * y)) (q4 := ee) (q5 := u) rfl rfl (World.ownsRow.alloc (World.ownsRow.alloc HW.out _) _) HQ.out ?c1 (by omega) ?c2 ?_)
      case c1 =>
        intro j u_ e_
        have h_ := six_new (V := wr.alloc (.cells #[.int .i64 s, .int .i64 a, .int .i64 bb, .int .i64 (z + (a * x + bb * y)), .int .i64 ee, .int .i64 u] 44)) j u_ e_
        rw [show (wr.alloc (.cells #[.int .i64 s, .int .i64 a, .int .i64 bb, .int .i64 (z + (a * x + bb * y)), .int .i64 ee, .int .i64 u] 44)).heap.size = wr.heap.size + 1 by simp] at h_
        exact h_
      case c2 => simp; omega
      intro v' w' HR HG
      go_wp2_with fail
      exact ⟨⟨k + 1, by go_num, by omega, HR, Lib.hid (kept_grown (Kept.alloc (Kept.alloc HK3.out _) _) HG.out (fun g_ e_ => by have := (World.ownsRow.lt HW.out g_ e_).1; simpa using this))⟩, by simp [intOf]; omega⟩
    · obtain rfl : k = m := by omega
      have hkk := HK.out
      have HO0 := Lib.hid (OwnB.kept HK3.out HOO.out)
      have HO1 := Lib.hid (OwnB.kept HK3.out (own_alloc w4 [.int .i64 A, .int .u64 e1, .int .i64 B, .int .u64 e2, .int .i64 D, .int .i64 px, .int .i64 py] 38))
      obtain ⟨p2, c2, g2, rfl, hc2, hc3, hS2⟩ := own6_sl HW.out
      have HS2 := Lib.hid hS2
      clear hS2 HW HS HK
      by_cases h2 : N.sE k = 0
      · have HC2 := Lib.hid (solve_good p2 k c2 g2 0 N (by unfold maxLen; omega) h2)
        obtain ⟨f0, f1, f2⟩ := HF.out
        rw [f0, f1, f2] at HC2
        have w1_ : IntKind.i64.wrap (px + x) = px + x := IntWalk.i64_in _ (by omega)
        have w2_ : IntKind.i64.wrap (py + y) = py + y := IntWalk.i64_in _ (by omega)
        have eqz : ∀ w, (Op.equalIn 10000 36 (.agg #[.int .i64 (px + x), .int .i64 (py + y)]) (.agg #[.int .i64 (px + x), .int .i64 (py + y)])).run Try.prog w = .ok true w := fun w => by go_simp
        clear f0 f1 f2 h2
        generalize wh (N.X k) = A2 at *; generalize wl (N.X k) = e3 at *; generalize wh (N.Y k) = B2 at *; generalize wl (N.Y k) = e4 at *
        obtain ⟨hz_c9_0, hg_c9_0, hf_c9_0_0, hf_c9_0_1, _⟩ := HO0.out
        obtain ⟨hz_c9_1, hg_c9_1, hf_c9_1_0, hf_c9_1_1, hf_c9_1_2, hf_c9_1_3, hf_c9_1_4, hf_c9_1_5, hf_c9_1_6, _⟩ := HO1.out
        go_wp2_with fail
        refine (HC2.out _ (HS2.out.kept (by repeat (first | with_reducible exact Kept.refl _ | with_reducible assumption | with_reducible refine Kept.setCell ?_ (by first | (simp; done) | (simp; omega) | omega) _ | with_reducible refine Kept.alloc ?_ _ | with_reducible refine Kept.drewN ?_ _ | with_reducible refine Kept.drew ?_ | with_reducible refine Kept.trans ?_ (by with_reducible assumption) | with_reducible refine Kept.dr ?_ (by with_reducible assumption))))).mono ?_
        rintro e w21 ⟨rfl, hk21⟩
        refine kuz (b := w.heap.size) hk21 (by first | (simp; done) | (simp; omega) | omega) ?_
        intro ha hb hz21_0 hn21_0 hm21_0
        have hf21_0_0 : w21.cell? ⟨w.heap.size, 0, none⟩ = some (.int .i64 x) := (ha _).trans (by first | with_reducible assumption | (simp (maxDischargeDepth := 7) [go_sem]; done) | (simp (maxDischargeDepth := 7) [go_sem, *]; done))
        have hf21_0_1 : w21.cell? ⟨w.heap.size, 1, none⟩ = some (.int .i64 y) := (ha _).trans (by first | with_reducible assumption | (simp (maxDischargeDepth := 7) [go_sem]; done) | (simp (maxDischargeDepth := 7) [go_sem, *]; done))
        try have hg21_0 : ∀ o, w21.frozen? ⟨w.heap.size, o, none⟩ = false := by intro o; rw [hb]; first | (simp (maxDischargeDepth := 7) [go_sem]; done) | (simp (maxDischargeDepth := 7) [go_sem, *]; done)
        clear ha hb
        refine kuz (b := w4.heap.size) hk21 (by first | (simp; done) | (simp; omega) | omega) ?_
        intro ha hb hz21_1 hn21_1 hm21_1
        have hf21_1_0 : w21.cell? ⟨w4.heap.size, 0, none⟩ = some (.int .i64 A) := (ha _).trans (by first | with_reducible assumption | (simp (maxDischargeDepth := 7) [go_sem]; done) | (simp (maxDischargeDepth := 7) [go_sem, *]; done))
        have hf21_1_1 : w21.cell? ⟨w4.heap.size, 1, none⟩ = some (.int .u64 e1) := (ha _).trans (by first | with_reducible assumption | (simp (maxDischargeDepth := 7) [go_sem]; done) | (simp (maxDischargeDepth := 7) [go_sem, *]; done))
        have hf21_1_2 : w21.cell? ⟨w4.heap.size, 2, none⟩ = some (.int .i64 B) := (ha _).trans (by first | with_reducible assumption | (simp (maxDischargeDepth := 7) [go_sem]; done) | (simp (maxDischargeDepth := 7) [go_sem, *]; done))
        have hf21_1_3 : w21.cell? ⟨w4.heap.size, 3, none⟩ = some (.int .u64 e2) := (ha _).trans (by first | with_reducible assumption | (simp (maxDischargeDepth := 7) [go_sem]; done) | (simp (maxDischargeDepth := 7) [go_sem, *]; done))
        have hf21_1_4 : w21.cell? ⟨w4.heap.size, 4, none⟩ = some (.int .i64 D) := (ha _).trans (by first | with_reducible assumption | (simp (maxDischargeDepth := 7) [go_sem]; done) | (simp (maxDischargeDepth := 7) [go_sem, *]; done))
        have hf21_1_5 : w21.cell? ⟨w4.heap.size, 5, none⟩ = some (.int .i64 px) := (ha _).trans (by first | with_reducible assumption | (simp (maxDischargeDepth := 7) [go_sem]; done) | (simp (maxDischargeDepth := 7) [go_sem, *]; done))
        have hf21_1_6 : w21.cell? ⟨w4.heap.size, 6, none⟩ = some (.int .i64 py) := (ha _).trans (by first | with_reducible assumption | (simp (maxDischargeDepth := 7) [go_sem]; done) | (simp (maxDischargeDepth := 7) [go_sem, *]; done))
        try have hg21_1 : ∀ o, w21.frozen? ⟨w4.heap.size, o, none⟩ = false := by intro o; rw [hb]; first | (simp (maxDischargeDepth := 7) [go_sem]; done) | (simp (maxDischargeDepth := 7) [go_sem, *]; done)
        clear ha hb
        try clear hf_c9_0_0
        try clear hf_c9_0_1
        try clear hf_c9_1_0
        try clear hf_c9_1_1
        try clear hf_c9_1_2
        try clear hf_c9_1_3
        try clear hf_c9_1_4
        try clear hf_c9_1_5
        try clear hf_c9_1_6
        try clear hg_c9_0
        try clear hg_c9_1
        go_wp2_with fail
        all_goals first | (go_ret; exact ⟨rfl, (by repeat (first | with_reducible exact Kept.refl _ | with_reducible assumption | with_reducible refine Kept.setCell ?_ (by first | (simp; done) | (simp; omega) | omega) _ | with_reducible refine Kept.alloc ?_ _ | with_reducible refine Kept.drewN ?_ _ | with_reducible refine Kept.drew ?_ | with_reducible refine Kept.trans ?_ (by with_reducible assumption) | with_reducible refine Kept.dr ?_ (by with_reducible assumption)))⟩) | (go_ret; refine ⟨?_, (by repeat (first | with_reducible exact Kept.refl _ | with_reducible assumption | with_reducible refine Kept.setCell ?_ (by first | (simp; done) | (simp; omega) | omega) _ | with_reducible refine Kept.alloc ?_ _ | with_reducible refine Kept.drewN ?_ _ | with_reducible refine Kept.drew ?_ | with_reducible refine Kept.trans ?_ (by with_reducible assumption) | with_reducible refine Kept.dr ?_ (by with_reducible assumption)))⟩; refine retb ?_; simp; done)
      · have HC2 := Lib.hid (solve_err p2 k c2 g2 0 N (by unfold maxLen; omega) h2)
        have hE := sE_shift N k n16 (by rw [HF.out.1]; omega)
        rcases hE with hE | hE | hE
        · exact absurd hE h2
        · rw [hE] at HC2
          obtain ⟨hz_c9_0, hg_c9_0, hf_c9_0_0, hf_c9_0_1, _⟩ := HO0.out
          obtain ⟨hz_c9_1, hg_c9_1, hf_c9_1_0, hf_c9_1_1, hf_c9_1_2, hf_c9_1_3, hf_c9_1_4, hf_c9_1_5, hf_c9_1_6, _⟩ := HO1.out
          go_wp2_with fail
          refine (HC2.out _ (HS2.out.kept (by repeat (first | with_reducible exact Kept.refl _ | with_reducible assumption | with_reducible refine Kept.setCell ?_ (by first | (simp; done) | (simp; omega) | omega) _ | with_reducible refine Kept.alloc ?_ _ | with_reducible refine Kept.drewN ?_ _ | with_reducible refine Kept.drew ?_ | with_reducible refine Kept.trans ?_ (by with_reducible assumption) | with_reducible refine Kept.dr ?_ (by with_reducible assumption))))).mono ?_
          rintro e w21 ⟨rfl, hk21⟩
          refine kuz (b := w.heap.size) hk21 (by first | (simp; done) | (simp; omega) | omega) ?_
          intro ha hb hz21_0 hn21_0 hm21_0
          have hf21_0_0 : w21.cell? ⟨w.heap.size, 0, none⟩ = some (.int .i64 x) := (ha _).trans (by first | with_reducible assumption | (simp (maxDischargeDepth := 7) [go_sem]; done) | (simp (maxDischargeDepth := 7) [go_sem, *]; done))
          have hf21_0_1 : w21.cell? ⟨w.heap.size, 1, none⟩ = some (.int .i64 y) := (ha _).trans (by first | with_reducible assumption | (simp (maxDischargeDepth := 7) [go_sem]; done) | (simp (maxDischargeDepth := 7) [go_sem, *]; done))
          try have hg21_0 : ∀ o, w21.frozen? ⟨w.heap.size, o, none⟩ = false := by intro o; rw [hb]; first | (simp (maxDischargeDepth := 7) [go_sem]; done) | (simp (maxDischargeDepth := 7) [go_sem, *]; done)
          clear ha hb
          refine kuz (b := w4.heap.size) hk21 (by first | (simp; done) | (simp; omega) | omega) ?_
          intro ha hb hz21_1 hn21_1 hm21_1
          have hf21_1_0 : w21.cell? ⟨w4.heap.size, 0, none⟩ = some (.int .i64 A) := (ha _).trans (by first | with_reducible assumption | (simp (maxDischargeDepth := 7) [go_sem]; done) | (simp (maxDischargeDepth := 7) [go_sem, *]; done))
          have hf21_1_1 : w21.cell? ⟨w4.heap.size, 1, none⟩ = some (.int .u64 e1) := (ha _).trans (by first | with_reducible assumption | (simp (maxDischargeDepth := 7) [go_sem]; done) | (simp (maxDischargeDepth := 7) [go_sem, *]; done))
          have hf21_1_2 : w21.cell? ⟨w4.heap.size, 2, none⟩ = some (.int .i64 B) := (ha _).trans (by first | with_reducible assumption | (simp (maxDischargeDepth := 7) [go_sem]; done) | (simp (maxDischargeDepth := 7) [go_sem, *]; done))
          have hf21_1_3 : w21.cell? ⟨w4.heap.size, 3, none⟩ = some (.int .u64 e2) := (ha _).trans (by first | with_reducible assumption | (simp (maxDischargeDepth := 7) [go_sem]; done) | (simp (maxDischargeDepth := 7) [go_sem, *]; done))
          have hf21_1_4 : w21.cell? ⟨w4.heap.size, 4, none⟩ = some (.int .i64 D) := (ha _).trans (by first | with_reducible assumption | (simp (maxDischargeDepth := 7) [go_sem]; done) | (simp (maxDischargeDepth := 7) [go_sem, *]; done))
          have hf21_1_5 : w21.cell? ⟨w4.heap.size, 5, none⟩ = some (.int .i64 px) := (ha _).trans (by first | with_reducible assumption | (simp (maxDischargeDepth := 7) [go_sem]; done) | (simp (maxDischargeDepth := 7) [go_sem, *]; done))
          have hf21_1_6 : w21.cell? ⟨w4.heap.size, 6, none⟩ = some (.int .i64 py) := (ha _).trans (by first | with_reducible assumption | (simp (maxDischargeDepth := 7) [go_sem]; done) | (simp (maxDischargeDepth := 7) [go_sem, *]; done))
          try have hg21_1 : ∀ o, w21.frozen? ⟨w4.heap.size, o, none⟩ = false := by intro o; rw [hb]; first | (simp (maxDischargeDepth := 7) [go_sem]; done) | (simp (maxDischargeDepth := 7) [go_sem, *]; done)
          clear ha hb
          try clear hf_c9_0_0
          try clear hf_c9_0_1
          try clear hf_c9_1_0
          try clear hf_c9_1_1
          try clear hf_c9_1_2
          try clear hf_c9_1_3
          try clear hf_c9_1_4
          try clear hf_c9_1_5
          try clear hf_c9_1_6
          try clear hg_c9_0
          try clear hg_c9_1
          go_wp2_with fail
          all_goals first | (go_ret; exact ⟨rfl, (by repeat (first | with_reducible exact Kept.refl _ | with_reducible assumption | with_reducible refine Kept.setCell ?_ (by first | (simp; done) | (simp; omega) | omega) _ | with_reducible refine Kept.alloc ?_ _ | with_reducible refine Kept.drewN ?_ _ | with_reducible refine Kept.drew ?_ | with_reducible refine Kept.trans ?_ (by with_reducible assumption) | with_reducible refine Kept.dr ?_ (by with_reducible assumption)))⟩) | (go_ret; refine ⟨?_, (by repeat (first | with_reducible exact Kept.refl _ | with_reducible assumption | with_reducible refine Kept.setCell ?_ (by first | (simp; done) | (simp; omega) | omega) _ | with_reducible refine Kept.alloc ?_ _ | with_reducible refine Kept.drewN ?_ _ | with_reducible refine Kept.drew ?_ | with_reducible refine Kept.trans ?_ (by with_reducible assumption) | with_reducible refine Kept.dr ?_ (by with_reducible assumption)))⟩; refine retb ?_; simp; done)
        · rw [hE] at HC2
          obtain ⟨hz_c9_0, hg_c9_0, hf_c9_0_0, hf_c9_0_1, _⟩ := HO0.out
          obtain ⟨hz_c9_1, hg_c9_1, hf_c9_1_0, hf_c9_1_1, hf_c9_1_2, hf_c9_1_3, hf_c9_1_4, hf_c9_1_5, hf_c9_1_6, _⟩ := HO1.out
          go_wp2_with fail
          refine (HC2.out _ (HS2.out.kept (by repeat (first | with_reducible exact Kept.refl _ | with_reducible assumption | with_reducible refine Kept.setCell ?_ (by first | (simp; done) | (simp; omega) | omega) _ | with_reducible refine Kept.alloc ?_ _ | with_reducible refine Kept.drewN ?_ _ | with_reducible refine Kept.drew ?_ | with_reducible refine Kept.trans ?_ (by with_reducible assumption) | with_reducible refine Kept.dr ?_ (by with_reducible assumption))))).mono ?_
          rintro e w21 ⟨rfl, hk21⟩
          refine kuz (b := w.heap.size) hk21 (by first | (simp; done) | (simp; omega) | omega) ?_
          intro ha hb hz21_0 hn21_0 hm21_0
          have hf21_0_0 : w21.cell? ⟨w.heap.size, 0, none⟩ = some (.int .i64 x) := (ha _).trans (by first | with_reducible assumption | (simp (maxDischargeDepth := 7) [go_sem]; done) | (simp (maxDischargeDepth := 7) [go_sem, *]; done))
          have hf21_0_1 : w21.cell? ⟨w.heap.size, 1, none⟩ = some (.int .i64 y) := (ha _).trans (by first | with_reducible assumption | (simp (maxDischargeDepth := 7) [go_sem]; done) | (simp (maxDischargeDepth := 7) [go_sem, *]; done))
          try have hg21_0 : ∀ o, w21.frozen? ⟨w.heap.size, o, none⟩ = false := by intro o; rw [hb]; first | (simp (maxDischargeDepth := 7) [go_sem]; done) | (simp (maxDischargeDepth := 7) [go_sem, *]; done)
          clear ha hb
          refine kuz (b := w4.heap.size) hk21 (by first | (simp; done) | (simp; omega) | omega) ?_
          intro ha hb hz21_1 hn21_1 hm21_1
          have hf21_1_0 : w21.cell? ⟨w4.heap.size, 0, none⟩ = some (.int .i64 A) := (ha _).trans (by first | with_reducible assumption | (simp (maxDischargeDepth := 7) [go_sem]; done) | (simp (maxDischargeDepth := 7) [go_sem, *]; done))
          have hf21_1_1 : w21.cell? ⟨w4.heap.size, 1, none⟩ = some (.int .u64 e1) := (ha _).trans (by first | with_reducible assumption | (simp (maxDischargeDepth := 7) [go_sem]; done) | (simp (maxDischargeDepth := 7) [go_sem, *]; done))
          have hf21_1_2 : w21.cell? ⟨w4.heap.size, 2, none⟩ = some (.int .i64 B) := (ha _).trans (by first | with_reducible assumption | (simp (maxDischargeDepth := 7) [go_sem]; done) | (simp (maxDischargeDepth := 7) [go_sem, *]; done))
          have hf21_1_3 : w21.cell? ⟨w4.heap.size, 3, none⟩ = some (.int .u64 e2) := (ha _).trans (by first | with_reducible assumption | (simp (maxDischargeDepth := 7) [go_sem]; done) | (simp (maxDischargeDepth := 7) [go_sem, *]; done))
          have hf21_1_4 : w21.cell? ⟨w4.heap.size, 4, none⟩ = some (.int .i64 D) := (ha _).trans (by first | with_reducible assumption | (simp (maxDischargeDepth := 7) [go_sem]; done) | (simp (maxDischargeDepth := 7) [go_sem, *]; done))
          have hf21_1_5 : w21.cell? ⟨w4.heap.size, 5, none⟩ = some (.int .i64 px) := (ha _).trans (by first | with_reducible assumption | (simp (maxDischargeDepth := 7) [go_sem]; done) | (simp (maxDischargeDepth := 7) [go_sem, *]; done))
          have hf21_1_6 : w21.cell? ⟨w4.heap.size, 6, none⟩ = some (.int .i64 py) := (ha _).trans (by first | with_reducible assumption | (simp (maxDischargeDepth := 7) [go_sem]; done) | (simp (maxDischargeDepth := 7) [go_sem, *]; done))
          try have hg21_1 : ∀ o, w21.frozen? ⟨w4.heap.size, o, none⟩ = false := by intro o; rw [hb]; first | (simp (maxDischargeDepth := 7) [go_sem]; done) | (simp (maxDischargeDepth := 7) [go_sem, *]; done)
          clear ha hb
          try clear hf_c9_0_0
          try clear hf_c9_0_1
          try clear hf_c9_1_0
          try clear hf_c9_1_1
          try clear hf_c9_1_2
          try clear hf_c9_1_3
          try clear hf_c9_1_4
          try clear hf_c9_1_5
          try clear hf_c9_1_6
          try clear hg_c9_0
          try clear hg_c9_1
          go_wp2_with fail
          all_goals first | (go_ret; exact ⟨rfl, (by repeat (first | with_reducible exact Kept.refl _ | with_reducible assumption | with_reducible refine Kept.setCell ?_ (by first | (simp; done) | (simp; omega) | omega) _ | with_reducible refine Kept.alloc ?_ _ | with_reducible refine Kept.drewN ?_ _ | with_reducible refine Kept.drew ?_ | with_reducible refine Kept.trans ?_ (by with_reducible assumption) | with_reducible refine Kept.dr ?_ (by with_reducible assumption)))⟩) | (go_ret; refine ⟨?_, (by repeat (first | with_reducible exact Kept.refl _ | with_reducible assumption | with_reducible refine Kept.setCell ?_ (by first | (simp; done) | (simp; omega) | omega) _ | with_reducible refine Kept.alloc ?_ _ | with_reducible refine Kept.drewN ?_ _ | with_reducible refine Kept.drew ?_ | with_reducible refine Kept.trans ?_ (by with_reducible assumption) | with_reducible refine Kept.dr ?_ (by with_reducible assumption)))⟩; refine retb ?_; simp; done)
theorem eqS_zero (w : World) : (Op.equalIn 10000 38 (.agg #[.int .i64 0, .int .u64 0, .int .i64 0, .int .u64 0, .int .i64 0, .int .i64 0, .int .i64 0]) (.agg #[.int .i64 0, .int .u64 0, .int .i64 0, .int .u64 0, .int .i64 0, .int .i64 0, .int .i64 0])).run Try.prog w = .ok true w := by
  go_simp
set_option maxHeartbeats 4000000 in
set_option maxRecDepth 100000 in
theorem lawi_LsqShift (p : Option Addr) (n c b o : Nat) (M : Ms) (m : Nat) (x y : Int) (hl : n ≤ c) (hc : c ≤ maxLen) (hm2 : m ≤ 20) (hmc : (n ≤ 20 ∧ m = n) ∨ (20 < n ∧ m = 20))  (w : World) (hS : SlM w p m b o M) : Calls Try.prog 11 #[.slice p n c, .agg #[.int .i64 x, .int .i64 y]] w fun e w' => e = .returned (.bool true) ∧ Kept w w' := by
  cases h4 : pok x y
  · have HV0 := pval_w x y
    rw [h4] at HV0
    have HV := Lib.hid HV0
    clear HV0
    go_enter Try.func11, Try.ntmps11
    go_wp2_with fail
    with_reducible refine (awake_w _).mono ?_
    rintro e w1 ⟨rfl, hk1⟩
    refine kuz (b := w.heap.size) hk1 (by first | (simp; done) | (simp; omega) | omega) ?_
    intro ha hb hz1_0 hn1_0 hm1_0
    have hf1_0_0 : w1.cell? ⟨w.heap.size, 0, none⟩ = some (.int .i64 x) := (ha _).trans (by first | with_reducible assumption | (simp (maxDischargeDepth := 7) [go_sem]; done) | (simp (maxDischargeDepth := 7) [go_sem, *]; done))
    have hf1_0_1 : w1.cell? ⟨w.heap.size, 1, none⟩ = some (.int .i64 y) := (ha _).trans (by first | with_reducible assumption | (simp (maxDischargeDepth := 7) [go_sem]; done) | (simp (maxDischargeDepth := 7) [go_sem, *]; done))
    try have hg1_0 : ∀ o, w1.frozen? ⟨w.heap.size, o, none⟩ = false := by intro o; rw [hb]; first | (simp (maxDischargeDepth := 7) [go_sem]; done) | (simp (maxDischargeDepth := 7) [go_sem, *]; done)
    clear ha hb
    go_wp2_with fail
    with_reducible refine (HV.out _).mono ?_
    rintro e w2 ⟨rfl, hk2⟩
    refine kuz (b := w.heap.size) hk2 (by first | (simp; done) | (simp; omega) | omega) ?_
    intro ha hb hz2_0 hn2_0 hm2_0
    have hf2_0_0 := (ha _).trans hf1_0_0
    have hf2_0_1 := (ha _).trans hf1_0_1
    have hg2_0 := fun o => (hb o).trans (hg1_0 o)
    clear ha hb
    try clear hf1_0_0
    try clear hf1_0_1
    try clear hg1_0
    go_wp2_with fail
    all_goals (go_ret; exact ⟨rfl, (by repeat (first | with_reducible exact Kept.refl _ | with_reducible assumption | with_reducible refine Kept.setCell ?_ (by first | (simp; done) | (simp; omega) | omega) _ | with_reducible refine Kept.alloc ?_ _ | with_reducible refine Kept.drewN ?_ _ | with_reducible refine Kept.drew ?_ | with_reducible refine Kept.trans ?_ (by with_reducible assumption) | with_reducible refine Kept.dr ?_ (by with_reducible assumption)))⟩)
  · by_cases h1 : M.sE m = 0
    · exact shift_ok p n c b o M m x y hl hc hm2 hmc w hS h1 h4
    · have rbz : ∀ w, (Instr.build 38 #[]).run Try.prog w = .ok (.agg #[.int .i64 0, .int .u64 0, .int .i64 0, .int .u64 0, .int .i64 0, .int .i64 0, .int .i64 0]) w := fun w => run_build w 38 #[] _ (by kernel_rfl)
      have eqz := eqS_zero
      have HS := Lib.hid hS
      clear hS
      have HV0 := pval_w x y
      rw [h4] at HV0
      have HV := Lib.hid HV0
      clear HV0
      have HC := Lib.hid (solve_err p m c b o M (by unfold maxLen; omega) h1)
      obtain ⟨E, hE⟩ : ∃ E, M.sE m = E := ⟨_, rfl⟩
      rw [hE] at HC h1
      clear hE
      go_enter Try.func11, Try.ntmps11
      go_wp2_with fail
      with_reducible refine (awake_w _).mono ?_
      rintro e w1 ⟨rfl, hk1⟩
      refine kuz (b := w.heap.size) hk1 (by first | (simp; done) | (simp; omega) | omega) ?_
      intro ha hb hz1_0 hn1_0 hm1_0
      have hf1_0_0 : w1.cell? ⟨w.heap.size, 0, none⟩ = some (.int .i64 x) := (ha _).trans (by first | with_reducible assumption | (simp (maxDischargeDepth := 7) [go_sem]; done) | (simp (maxDischargeDepth := 7) [go_sem, *]; done))
      have hf1_0_1 : w1.cell? ⟨w.heap.size, 1, none⟩ = some (.int .i64 y) := (ha _).trans (by first | with_reducible assumption | (simp (maxDischargeDepth := 7) [go_sem]; done) | (simp (maxDischargeDepth := 7) [go_sem, *]; done))
      try have hg1_0 : ∀ o, w1.frozen? ⟨w.heap.size, o, none⟩ = false := by intro o; rw [hb]; first | (simp (maxDischargeDepth := 7) [go_sem]; done) | (simp (maxDischargeDepth := 7) [go_sem, *]; done)
      clear ha hb
      go_wp2_with fail
      with_reducible refine (HV.out _).mono ?_
      rintro e w2 ⟨rfl, hk2⟩
      refine kuz (b := w.heap.size) hk2 (by first | (simp; done) | (simp; omega) | omega) ?_
      intro ha hb hz2_0 hn2_0 hm2_0
      have hf2_0_0 := (ha _).trans hf1_0_0
      have hf2_0_1 := (ha _).trans hf1_0_1
      have hg2_0 := fun o => (hb o).trans (hg1_0 o)
      clear ha hb
      try clear hf1_0_0
      try clear hf1_0_1
      try clear hg1_0
      go_wp2_with fail
      with_reducible refine (cut_w p n c m hl hc hmc _).mono ?_
      rintro e w' ⟨rfl, rfl⟩
      go_wp2_with fail
      refine (HC.out _ (HS.out.kept (by repeat (first | with_reducible exact Kept.refl _ | with_reducible assumption | with_reducible refine Kept.setCell ?_ (by first | (simp; done) | (simp; omega) | omega) _ | with_reducible refine Kept.alloc ?_ _ | with_reducible refine Kept.drewN ?_ _ | with_reducible refine Kept.drew ?_ | with_reducible refine Kept.trans ?_ (by with_reducible assumption) | with_reducible refine Kept.dr ?_ (by with_reducible assumption))))).mono ?_
      rintro e w4 ⟨rfl, hk4⟩
      refine kuz (b := w.heap.size) hk4 (by first | (simp; done) | (simp; omega) | omega) ?_
      intro ha hb hz4_0 hn4_0 hm4_0
      have hf4_0_0 := (ha _).trans hf2_0_0
      have hf4_0_1 := (ha _).trans hf2_0_1
      have hg4_0 := fun o => (hb o).trans (hg2_0 o)
      clear ha hb
      try clear hf2_0_0
      try clear hf2_0_1
      try clear hg2_0
      go_wp2_with fail
      all_goals first | (go_ret; exact ⟨rfl, (by repeat (first | with_reducible exact Kept.refl _ | with_reducible assumption | with_reducible refine Kept.setCell ?_ (by first | (simp; done) | (simp; omega) | omega) _ | with_reducible refine Kept.alloc ?_ _ | with_reducible refine Kept.drewN ?_ _ | with_reducible refine Kept.drew ?_ | with_reducible refine Kept.trans ?_ (by with_reducible assumption) | with_reducible refine Kept.dr ?_ (by with_reducible assumption)))⟩) | (go_ret; refine ⟨?_, (by repeat (first | with_reducible exact Kept.refl _ | with_reducible assumption | with_reducible refine Kept.setCell ?_ (by first | (simp; done) | (simp; omega) | omega) _ | with_reducible refine Kept.alloc ?_ _ | with_reducible refine Kept.drewN ?_ _ | with_reducible refine Kept.drew ?_ | with_reducible refine Kept.trans ?_ (by with_reducible assumption) | with_reducible refine Kept.dr ?_ (by with_reducible assumption)))⟩; refine retb ?_; simp; done)
theorem law_LsqShift (p0 : Option Addr) (n0 c0 b0 o0 : Nat) (F0_0 F0_1 F0_2 F0_3 F0_4 F0_5 : Nat → Int) (x y : Int) (hl0 : n0 ≤ c0) (hm0 : c0 ≤ maxLen) (fb0_0 : ∀ i, i < n0 → -9223372036854775808 ≤ F0_0 i ∧ F0_0 i ≤ 9223372036854775807) (fb0_1 : ∀ i, i < n0 → -9223372036854775808 ≤ F0_1 i ∧ F0_1 i ≤ 9223372036854775807) (fb0_2 : ∀ i, i < n0 → -9223372036854775808 ≤ F0_2 i ∧ F0_2 i ≤ 9223372036854775807) (fb0_3 : ∀ i, i < n0 → -9223372036854775808 ≤ F0_3 i ∧ F0_3 i ≤ 9223372036854775807) (fb0_4 : ∀ i, i < n0 → -9223372036854775808 ≤ F0_4 i ∧ F0_4 i ≤ 9223372036854775807) (fb0_5 : ∀ i, i < n0 → -9223372036854775808 ≤ F0_5 i ∧ F0_5 i ≤ 9223372036854775807) (xa : -9223372036854775808 ≤ x) (xb : x ≤ 9223372036854775807) (ya : -9223372036854775808 ≤ y) (yb : y ≤ 9223372036854775807) (w : World) (hp0 : 0 < n0 → p0 = some ⟨b0, o0, none⟩ ∧ b0 < w.heap.size) (hc0_0 : ∀ i, i < n0 → w.cell? ⟨b0, o0 + (i * 6 + 0), none⟩ = some (.int .i64 (F0_0 i))) (hc0_1 : ∀ i, i < n0 → w.cell? ⟨b0, o0 + (i * 6 + 1), none⟩ = some (.int .i64 (F0_1 i))) (hc0_2 : ∀ i, i < n0 → w.cell? ⟨b0, o0 + (i * 6 + 2), none⟩ = some (.int .i64 (F0_2 i))) (hc0_3 : ∀ i, i < n0 → w.cell? ⟨b0, o0 + (i * 6 + 3), none⟩ = some (.int .i64 (F0_3 i))) (hc0_4 : ∀ i, i < n0 → w.cell? ⟨b0, o0 + (i * 6 + 4), none⟩ = some (.int .i64 (F0_4 i))) (hc0_5 : ∀ i, i < n0 → w.cell? ⟨b0, o0 + (i * 6 + 5), none⟩ = some (.int .i64 (F0_5 i))) :
    Calls Try.prog 11 #[.slice p0 n0 c0, .agg #[.int .i64 x, .int .i64 y]] w fun en w' => en = .returned (.bool true) ∧ Kept w w' := by
  obtain ⟨m, hm, hm2, hmc⟩ := cutm n0
  exact lawi_LsqShift p0 n0 c0 b0 o0 ⟨F0_0, F0_1, F0_2, F0_3, F0_4, F0_5⟩ m x y hl0 hm0 hm2 hmc w ((sl_of p0 n0 c0 b0 o0 F0_0 F0_1 F0_2 F0_3 F0_4 F0_5 w hp0 hc0_0 hc0_1 hc0_2 hc0_3 hc0_4 hc0_5).le hm)
end Go.Proofs.Ytoegcfdlecbcjaa
