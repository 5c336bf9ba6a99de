/-
  Own contracts: the law LsqExact.
-/
import Derived.Test.YtoegcfdlecbcjaaLsqi
import Derived.Test.YtoegcfdlecbcjaaLsqa6
import Derived.Test.YtoegcfdlecbcjaaLsqh
import Derived.Test.YtoegcfdlecbcjaaLsqz2
import Derived.Test.YtoegcfdlecbcjaaLsqg
import Derived.Laws.AppendOwn
import Derived.Laws.OwnMore
import Derived.OwnWalk
import Derived.OneCell
import Derived.WalkKit
import Derived.ProofKit
import Derived.OpenShut
import Derived.WalkLawsBesides
import Derived.WalkSpells
import Derived.Lib.Hide
import Derived.Deep.DeepCutAuto
import Derived.Deep.CutBlock
import Derived.Deep.QuietTactic
import Derived.BigQuiet
import Derived.Handy
import Derived.StillTailTactics
import Derived.IntWalk
import Derived.LoopN
import Derived.Deep.RegionHeld3
namespace Go.Proofs.Ytoegcfdlecbcjaa
open Go.ChangeShapes Go.WideShapes Go.ChangeAt Go.RowKit
set_option linter.unusedVariables false
set_option linter.unusedSimpArgs false
theorem six_new {V : World} {q0 q1 q2 q3 q4 q5 : Int} : ∀ j u, [Value.int .i64 q0, .int .i64 q1, .int .i64 q2, .int .i64 q3, .int .i64 q4, .int .i64 q5][j]? = some u → (V.alloc (.cells #[.int .i64 q0, .int .i64 q1, .int .i64 q2, .int .i64 q3, .int .i64 q4, .int .i64 q5] 44)).cell? ((⟨V.heap.size, 0, none⟩ : Addr).add j) = some u := by
  intro j u e
  obtain ⟨hz, hg, c0, c1, c2, c3, c4, c5, _⟩ := own_alloc V [.int .i64 q0, .int .i64 q1, .int .i64 q2, .int .i64 q3, .int .i64 q4, .int .i64 q5] 44
  rw [add_nil]
  match j, e with
  | 0, e => cases e; exact c0
  | 1, e => cases e; exact c1
  | 2, e => cases e; exact c2
  | 3, e => cases e; exact c3
  | 4, e => cases e; exact c4
  | 5, e => cases e; exact c5
theorem own6_ne {w : World} {base n : Nat} {v : Value} {N : Ms} (h : Own6 w base v n N) (b : Nat) (hb : w.heap.size ≤ b) : v.ownBlock ≠ some b := by
  intro e
  have := (World.ownsRow.lt h b e).2
  omega
def mx4 (x y z u : Int) : Int := max (max (max x y) z) u
theorem run_max4 {P : Program} {w : World} (ts : Array TypeId) (t : TypeId) (x y z u : Int) : (Builtin.max_ ts t #[.int .i64 x, .int .i64 y, .int .i64 z, .int .i64 u]).run P w = .ok (.int .i64 (mx4 x y z u)) w := by
  have h : ∀ a b : Int, (if b > a then b else a) = max a b := fun a b => by split <;> omega
  simp [Builtin.max_, Builtin.max2, mx4, h]
def upd (N : Ms) (r : Nat) (s a b z e u : Int) : Ms := ⟨fun i => if i = r then s else N.s i, fun i => if i = r then a else N.a i, fun i => if i = r then b else N.b i, fun i => if i = r then z else N.z i, fun i => if i = r then e else N.e i, fun i => if i = r then u else N.u i⟩
theorem rw6_congr {N K : Ms} : ∀ n, (∀ i, i < n → K.s i = N.s i ∧ K.a i = N.a i ∧ K.b i = N.b i ∧ K.z i = N.z i ∧ K.e i = N.e i ∧ K.u i = N.u i) → rw6 K n = rw6 N n
  | 0, _ => rfl
  | n + 1, h => by
    obtain ⟨h1, h2, h3, h4, h5, h6⟩ := h n (by omega)
    simp only [rw6]
    rw [rw6_congr n (fun i hi => h i (by omega)), h1, h2, h3, h4, h5, h6]
theorem upd_lo (N : Ms) (r : Nat) (s a b z e u : Int) (i : Nat) (hi : i < r) : (upd N r s a b z e u).s i = N.s i ∧ (upd N r s a b z e u).a i = N.a i ∧ (upd N r s a b z e u).b i = N.b i ∧ (upd N r s a b z e u).z i = N.z i ∧ (upd N r s a b z e u).e i = N.e i ∧ (upd N r s a b z e u).u i = N.u i := by
  have h : ¬ i = r := by omega
  simp [upd, h]
theorem rw6_upd (N : Ms) (r : Nat) (s a b z e u : Int) : rw6 (upd N r s a b z e u) (r + 1) = rw6 N r ++ [.int .i64 s, .int .i64 a, .int .i64 b, .int .i64 z, .int .i64 e, .int .i64 u] := by
  simp only [rw6]
  rw [rw6_congr r (upd_lo N r s a b z e u)]
  simp [upd]
theorem hex_upd {N : Ms} {r : Nat} {s a b z e u x y : Int} (h : Hex N x y r) (hz : z = a * x + b * y) : Hex (upd N r s a b z e u) x y (r + 1) := ⟨fun i hi => by
  by_cases c : i < r
  · obtain ⟨_, h2, h3, h4, _⟩ := upd_lo N r s a b z e u i c
    rw [h2, h3, h4]; exact h.at_ i c
  · obtain rfl : i = r := by omega
    simp [upd, hz]⟩
theorem own6_congr {w : World} {base n : Nat} {v : Value} {N K : Ms} (h : Own6 w base v n N) (e : rw6 K n = rw6 N n) : Own6 w base v n K := by unfold Own6; rw [e]; exact h
theorem sE_hex {N : Ms} {x y : Int} {n : Nat} (h : Hex N x y n) (hp : pok x y = true) (he : N.sE n ≠ 0) : N.sE n = 1 ∨ N.sE n = 3 ∨ N.sE n = 14 := by
  by_cases c : N.chk n = 0
  · by_cases d : N.det n = 0
    · rw [Ms.sE_rank c d]; simp
    · exfalso
      obtain ⟨n16, hall⟩ := Ms.chk_0 c
      have dn := det_nn n16 hall
      have p := h.px (by omega)
      exact he (Ms.sE_ok c d (by rw [p.1, p.2]; exact hp))
  · rw [Ms.sE_chk c]
    have := N.chk_vals n
    omega
theorem ab_bd {a b x y : Int} (a0 : -256 ≤ a) (a1 : a ≤ 256) (b0 : -256 ≤ b) (b1 : b ≤ 256) (x0 : -2000000 ≤ x) (x1 : x ≤ 2000000) (y0 : -2000000 ≤ y) (y1 : y ≤ 2000000) : (-512000000 ≤ a * x ∧ a * x ≤ 512000000) ∧ (-512000000 ≤ b * y ∧ b * y ≤ 512000000) := by
  have h1 := mulb (x := a) (y := x) (p := 256) (q := 2000000) (by omega) a0 a1 x0 x1
  have h2 := mulb (x := b) (y := y) (p := 256) (q := 2000000) (by omega) b0 b1 y0 y1
  omega
set_option maxHeartbeats 8000000 in
set_option maxRecDepth 100000 in
theorem exact_law (p : Option Addr) (n c b o : Nat) (M : Ms) (m : Nat) (x y : Int) (hl : n ≤ c) (hc : c ≤ maxLen) (hm2 : m ≤ 20) (hmc : (n ≤ 20 ∧ m = n) ∨ (20 < n ∧ m = 20)) (fs : ∀ i, i < m → (-9223372036854775808 ≤ M.a i ∧ M.a i ≤ 9223372036854775807) ∧ (-9223372036854775808 ≤ M.b i ∧ M.b i ≤ 9223372036854775807)) (w : World) (hS : SlM w p m b o M) (h4 : pok x y = true) : Calls Try.prog 9 #[.slice p n c, .agg #[.int .i64 x, .int .i64 y]] w fun e w' => e = .returned (.bool true) ∧ Kept w w' := by
  have HS := Lib.hid hS
  clear hS
  have HV0 := pval_w x y
  rw [h4] at HV0
  have HV := Lib.hid HV0
  have hpk := pokk h4
  have HP4 := Lib.hid h4
  have HFS := Lib.hid fs
  clear HV0 h4 fs
  go_enter Try.func9, Try.ntmps9
  go_wp2_with fail
  with_reducible refine (awake_w _).mono ?_
  rintro e w1 ⟨rfl, hk1⟩
  refine kuz (b := w.heap.size) hk1 (by first | (simp; done) | (simp; omega) | omega) ?_
  intro ha hb hz1_0 hn1_0 hm1_0
  have hf1_0_0 : w1.cell? ⟨w.heap.size, 0, none⟩ = some (.int .i64 x) := (ha _).trans (by first | with_reducible assumption | (simp (maxDischargeDepth := 7) [go_sem]; done) | (simp (maxDischargeDepth := 7) [go_sem, *]; done))
  have hf1_0_1 : w1.cell? ⟨w.heap.size, 1, none⟩ = some (.int .i64 y) := (ha _).trans (by first | with_reducible assumption | (simp (maxDischargeDepth := 7) [go_sem]; done) | (simp (maxDischargeDepth := 7) [go_sem, *]; done))
  try have hg1_0 : ∀ o, w1.frozen? ⟨w.heap.size, o, none⟩ = false := by intro o; rw [hb]; first | (simp (maxDischargeDepth := 7) [go_sem]; done) | (simp (maxDischargeDepth := 7) [go_sem, *]; done)
  clear ha hb
  go_wp2_with fail
  with_reducible refine (HV.out _).mono ?_
  rintro e w2 ⟨rfl, hk2⟩
  refine kuz (b := w.heap.size) hk2 (by first | (simp; done) | (simp; omega) | omega) ?_
  intro ha hb hz2_0 hn2_0 hm2_0
  have hf2_0_0 := (ha _).trans hf1_0_0
  have hf2_0_1 := (ha _).trans hf1_0_1
  have hg2_0 := fun o => (hb o).trans (hg1_0 o)
  clear ha hb
  try clear hf1_0_0
  try clear hf1_0_1
  try clear hg1_0
  go_wp2_with fail
  with_reducible refine (cut_w p n c m hl hc hmc _).mono ?_
  rintro e w' ⟨rfl, rfl⟩
  go_wp2_with fail
  have H0 : OwnB w2 w.heap.size [.int .i64 x, .int .i64 y] := ⟨hz2_0, hg2_0, hf2_0_0, hf2_0_1, trivial⟩
  have hb0 : w.heap.size < w2.heap.size := hz2_0
  have HK0 : Hid (Kept w w2) := Lib.hid (by repeat (first | with_reducible exact Kept.refl _ | with_reducible assumption | with_reducible refine Kept.setCell ?_ (by first | (simp; done) | (simp; omega) | omega) _ | with_reducible refine Kept.alloc ?_ _ | with_reducible refine Kept.drewN ?_ _ | with_reducible refine Kept.drew ?_ | with_reducible refine Kept.trans ?_ (by with_reducible assumption) | with_reducible refine Kept.dr ?_ (by with_reducible assumption)))
  have HOO := Lib.hid H0
  go_loopw [5, 24] (fun mv i wr => ∃ (k r : Nat) (N : Ms), i = .int .i64 k ∧ k ≤ m ∧ r ≤ k ∧ Hid (Hex N x y r) ∧ Hid (Own6 wr w2.heap.size mv r N) ∧ Hid (Kept w2 wr)) (fun _ i _ => m - (intOf i).toNat)
  case atStart => exact ⟨0, 0, M, rfl, Nat.zero_le _, Nat.le_refl _, Lib.hid ⟨fun i hi => by omega⟩, Lib.hid (own6_empty w2 w2.heap.size (Nat.le_refl _) M), Lib.hid (by repeat (first | with_reducible exact Kept.refl _ | with_reducible assumption | with_reducible refine Kept.setCell ?_ (by first | (simp; done) | (simp; omega) | omega) _ | with_reducible refine Kept.alloc ?_ _ | with_reducible refine Kept.drewN ?_ _ | with_reducible refine Kept.drew ?_ | with_reducible refine Kept.trans ?_ (by with_reducible assumption) | with_reducible refine Kept.dr ?_ (by with_reducible assumption)))⟩
  case round =>
    obtain ⟨k, r, N, rfl, hk, hr, HX, HW, HK3⟩ := hrel
    have HK : Hid (Kept w wr) := Lib.hid (HK0.out.trans HK3.out)
    by_cases hlt : k < m
    · have rb := HFS.out k hlt
      obtain ⟨s, hs⟩ : ∃ x, M.s k = x := ⟨_, rfl⟩
      obtain ⟨a, ha⟩ : ∃ x, M.a k = x := ⟨_, rfl⟩
      obtain ⟨bb, hb⟩ : ∃ x, M.b k = x := ⟨_, rfl⟩
      obtain ⟨z, hz⟩ : ∃ x, M.z k = x := ⟨_, rfl⟩
      obtain ⟨ee, he⟩ : ∃ x, M.e k = x := ⟨_, rfl⟩
      obtain ⟨u, hu⟩ : ∃ x, M.u k = x := ⟨_, rfl⟩
      have hS := HS.out.kept HK.out
      have c0 := hS.cs k hlt
      have c1 := hS.ca k hlt
      have c2 := hS.cb k hlt
      have c3 := hS.cz k hlt
      have c4 := hS.ce k hlt
      have c5 := hS.cu k hlt
      obtain ⟨hp, hb_⟩ := hS.hp (by omega)
      rw [hs] at c0
      rw [ha] at c1
      rw [hb] at c2
      rw [hz] at c3
      rw [he] at c4
      rw [hu] at c5
      clear hS
      subst hp
      rw [ha, hb] at rb
      clear hs ha hb hz he hu
      obtain ⟨⟨ra0, ra1⟩, ⟨rb0, rb1⟩⟩ := rb
      have hsz : w2.heap.size ≤ wr.heap.size := HK3.out.size
      obtain ⟨hz_0, hg_0, hd0, hd1, _⟩ := OwnB.kept HK3.out HOO.out
      have hkk := HK.out
      clear HK HS
      have mxl : ∀ (ts : Array TypeId) (ty : TypeId) (x y z u : Int) (w : World), (Builtin.max_ ts ty #[.int .i64 x, .int .i64 y, .int .i64 z, .int .i64 u]).run Try.prog w = .ok (.int .i64 (mx4 x y z u)) w := fun ts ty x y z u w => run_max4 ts ty x y z u
      obtain ⟨na, hna⟩ : ∃ na, wrap64 (-a) = na := ⟨_, rfl⟩
      obtain ⟨nb_, hnb⟩ : ∃ nb_, wrap64 (-bb) = nb_ := ⟨_, rfl⟩
      have ena : na = -a ∨ (a = -9223372036854775808 ∧ na = a) := by rw [← hna]; unfold wrap64; omega
      have enb : nb_ = -bb ∨ (bb = -9223372036854775808 ∧ nb_ = bb) := by rw [← hnb]; unfold wrap64; omega
      by_cases hin : -256 ≤ a ∧ a ≤ 256 ∧ -256 ≤ bb ∧ bb ≤ 256
      · obtain ⟨a0, a1, b0, b1⟩ := hin
        obtain ⟨⟨p0, p1⟩, ⟨p2, p3⟩⟩ := ab_bd a0 a1 b0 b1 hpk.1 hpk.2.1 hpk.2.2.1 hpk.2.2.2
        have hmx : mx4 a (-a) bb (-bb) ≤ 256 := by unfold mx4; omega
        have k0 : IntKind.i64.wrap (a * x) = a * x := IntWalk.i64_in _ (by omega)
        have k1 : IntKind.i64.wrap (bb * y) = bb * y := IntWalk.i64_in _ (by omega)
        have k2 : IntKind.i64.wrap (a * x + bb * y) = a * x + bb * y := IntWalk.i64_in _ (by omega)
        have hrb : r ≤ 1000 := by omega
        clear ena enb
        go_wp2_with (at_builtin; refine app6 rfl _ _ rfl (base := w2.heap.size) (N := upd N r s a bb (a * x + bb * y) ee u) (n := r) (q0 := s) (q1 := a) (q2 := bb) (q3 := a * x + bb * y) (q4 := ee) (q5 := u) rfl rfl (own6_congr (World.ownsRow.alloc (World.ownsRow.alloc HW.out _) _) (rw6_congr r (upd_lo N r s a bb (a * x + bb * y) ee u))) (by rw [rw6_upd, rw6_congr r (upd_lo N r s a bb (a * x + bb * y) ee u)]) ?c1 hrb ?c2 ?_)
        case c1 =>
          intro j u_ e_
          have h_ := six_new (V := wr.alloc (.cells #[.int .i64 s, .int .i64 a, .int .i64 bb, .int .i64 (a * x + bb * y), .int .i64 ee, .int .i64 u] 44)) j u_ e_
          rw [show (wr.alloc (.cells #[.int .i64 s, .int .i64 a, .int .i64 bb, .int .i64 (a * x + bb * y), .int .i64 ee, .int .i64 u] 44)).heap.size = wr.heap.size + 1 by simp] at h_
          exact h_
        case c2 => simp; omega
        intro v' w' HR HG
        go_wp2_with fail
        exact ⟨⟨k + 1, r + 1, _, by go_num, by omega, by omega, Lib.hid (hex_upd HX.out rfl), HR, Lib.hid (kept_grown (Kept.alloc (Kept.alloc HK3.out _) _) HG.out (fun g_ e_ => (World.ownsRow.lt HW.out g_ e_).1))⟩, by simp [intOf]; omega⟩
      · have hno : ¬ (mx4 a na bb nb_ ≤ 256 ∧ -256 ≤ a ∧ -256 ≤ bb) := by unfold mx4; omega
        clear ena enb hin
        go_wp2_with fail
        all_goals first | (exfalso; omega) | exact ⟨⟨k + 1, r, N, by go_num, by omega, by omega, HX, Lib.hid (World.ownsRow.alloc HW.out _), Lib.hid (Kept.alloc HK3.out _)⟩, by simp [intOf]; omega⟩
    · obtain rfl : k = m := by omega
      have hkk := HK.out
      have HO0 := Lib.hid (OwnB.kept HK3.out HOO.out)
      obtain ⟨p2, c2, g2, rfl, hc2, hc3, hS2⟩ := own6_sl HW.out
      have HS2 := Lib.hid hS2
      clear hS2 HW HS HK
      by_cases h2 : N.sE r = 0
      · have HC2 := Lib.hid (solve_good p2 r c2 g2 0 N (by unfold maxLen; omega) h2)
        have HL2 := Lib.hid (least_ok p2 r c2 g2 0 N (by unfold maxLen; omega) h2)
        obtain ⟨h11, h12, h13⟩ := Ms.sE_0 h2
        have HR2 := Lib.hid (resid_ok p2 r c2 g2 0 N x y (by unfold maxLen; omega) h11 HP4.out)
        obtain ⟨n16, hall⟩ := Ms.chk_0 h11
        have dn := det_nn n16 hall
        have pp := HX.out.px (by omega)
        rw [pp.1, pp.2] at HC2
        rw [HX.out.num, show wh 0 = 0 by decide, show wl 0 = 0 by decide] at HL2
        rw [HX.out.rr, show wh 0 = 0 by decide, show wl 0 = 0 by decide] at HR2
        have eqz : ∀ w, (Op.equalIn 10000 36 (.agg #[.int .i64 x, .int .i64 y]) (.agg #[.int .i64 x, .int .i64 y])).run Try.prog w = .ok true w := fun w => by go_simp
        clear pp dn hall n16 h11 h12 h13 h2 HX
        generalize wh (N.X r) = A2 at *; generalize wl (N.X r) = e3 at *; generalize wh (N.Y r) = B2 at *; generalize wl (N.Y r) = e4 at *; generalize N.det r = D at *
        obtain ⟨hz_c9_0, hg_c9_0, hf_c9_0_0, hf_c9_0_1, _⟩ := HO0.out
        go_wp2_with fail
        refine (HC2.out _ (HS2.out.kept (by repeat (first | with_reducible exact Kept.refl _ | with_reducible assumption | with_reducible refine Kept.setCell ?_ (by first | (simp; done) | (simp; omega) | omega) _ | with_reducible refine Kept.alloc ?_ _ | with_reducible refine Kept.drewN ?_ _ | with_reducible refine Kept.drew ?_ | with_reducible refine Kept.trans ?_ (by with_reducible assumption) | with_reducible refine Kept.dr ?_ (by with_reducible assumption))))).mono ?_
        rintro e w21 ⟨rfl, hk21⟩
        refine kuz (b := w.heap.size) hk21 (by first | (simp; done) | (simp; omega) | omega) ?_
        intro ha hb hz21_0 hn21_0 hm21_0
        have hf21_0_0 : w21.cell? ⟨w.heap.size, 0, none⟩ = some (.int .i64 x) := (ha _).trans (by first | with_reducible assumption | (simp (maxDischargeDepth := 7) [go_sem]; done) | (simp (maxDischargeDepth := 7) [go_sem, *]; done))
        have hf21_0_1 : w21.cell? ⟨w.heap.size, 1, none⟩ = some (.int .i64 y) := (ha _).trans (by first | with_reducible assumption | (simp (maxDischargeDepth := 7) [go_sem]; done) | (simp (maxDischargeDepth := 7) [go_sem, *]; done))
        try have hg21_0 : ∀ o, w21.frozen? ⟨w.heap.size, o, none⟩ = false := by intro o; rw [hb]; first | (simp (maxDischargeDepth := 7) [go_sem]; done) | (simp (maxDischargeDepth := 7) [go_sem, *]; done)
        clear ha hb
        try clear hf_c9_0_0
        try clear hf_c9_0_1
        try clear hg_c9_0
        go_wp2_with fail
        refine (HL2.out _ (HS2.out.kept (by repeat (first | with_reducible exact Kept.refl _ | with_reducible assumption | with_reducible refine Kept.setCell ?_ (by first | (simp; done) | (simp; omega) | omega) _ | with_reducible refine Kept.alloc ?_ _ | with_reducible refine Kept.drewN ?_ _ | with_reducible refine Kept.drew ?_ | with_reducible refine Kept.trans ?_ (by with_reducible assumption) | with_reducible refine Kept.dr ?_ (by with_reducible assumption))))).mono ?_
        rintro e w22 ⟨rfl, hk22⟩
        refine kuz (b := w.heap.size) hk22 (by first | (simp; done) | (simp; omega) | omega) ?_
        intro ha hb hz22_0 hn22_0 hm22_0
        have hf22_0_0 : w22.cell? ⟨w.heap.size, 0, none⟩ = some (.int .i64 x) := (ha _).trans (by first | with_reducible assumption | (simp (maxDischargeDepth := 7) [go_sem]; done) | (simp (maxDischargeDepth := 7) [go_sem, *]; done))
        have hf22_0_1 : w22.cell? ⟨w.heap.size, 1, none⟩ = some (.int .i64 y) := (ha _).trans (by first | with_reducible assumption | (simp (maxDischargeDepth := 7) [go_sem]; done) | (simp (maxDischargeDepth := 7) [go_sem, *]; done))
        try have hg22_0 : ∀ o, w22.frozen? ⟨w.heap.size, o, none⟩ = false := by intro o; rw [hb]; first | (simp (maxDischargeDepth := 7) [go_sem]; done) | (simp (maxDischargeDepth := 7) [go_sem, *]; done)
        clear ha hb
        refine kuz (b := w21.heap.size) hk22 (by first | (simp; done) | (simp; omega) | omega) ?_
        intro ha hb hz22_1 hn22_1 hm22_1
        have hf22_1_0 : w22.cell? ⟨w21.heap.size, 0, none⟩ = some (.int .i64 A2) := (ha _).trans (by first | with_reducible assumption | (simp (maxDischargeDepth := 7) [go_sem]; done) | (simp (maxDischargeDepth := 7) [go_sem, *]; done))
        have hf22_1_1 : w22.cell? ⟨w21.heap.size, 1, none⟩ = some (.int .u64 e3) := (ha _).trans (by first | with_reducible assumption | (simp (maxDischargeDepth := 7) [go_sem]; done) | (simp (maxDischargeDepth := 7) [go_sem, *]; done))
        have hf22_1_2 : w22.cell? ⟨w21.heap.size, 2, none⟩ = some (.int .i64 B2) := (ha _).trans (by first | with_reducible assumption | (simp (maxDischargeDepth := 7) [go_sem]; done) | (simp (maxDischargeDepth := 7) [go_sem, *]; done))
        have hf22_1_3 : w22.cell? ⟨w21.heap.size, 3, none⟩ = some (.int .u64 e4) := (ha _).trans (by first | with_reducible assumption | (simp (maxDischargeDepth := 7) [go_sem]; done) | (simp (maxDischargeDepth := 7) [go_sem, *]; done))
        have hf22_1_4 : w22.cell? ⟨w21.heap.size, 4, none⟩ = some (.int .i64 D) := (ha _).trans (by first | with_reducible assumption | (simp (maxDischargeDepth := 7) [go_sem]; done) | (simp (maxDischargeDepth := 7) [go_sem, *]; done))
        have hf22_1_5 : w22.cell? ⟨w21.heap.size, 5, none⟩ = some (.int .i64 x) := (ha _).trans (by first | with_reducible assumption | (simp (maxDischargeDepth := 7) [go_sem]; done) | (simp (maxDischargeDepth := 7) [go_sem, *]; done))
        have hf22_1_6 : w22.cell? ⟨w21.heap.size, 6, none⟩ = some (.int .i64 y) := (ha _).trans (by first | with_reducible assumption | (simp (maxDischargeDepth := 7) [go_sem]; done) | (simp (maxDischargeDepth := 7) [go_sem, *]; done))
        try have hg22_1 : ∀ o, w22.frozen? ⟨w21.heap.size, o, none⟩ = false := by intro o; rw [hb]; first | (simp (maxDischargeDepth := 7) [go_sem]; done) | (simp (maxDischargeDepth := 7) [go_sem, *]; done)
        clear ha hb
        try clear hf21_0_0
        try clear hf21_0_1
        try clear hg21_0
        go_wp2_with fail
        refine (HR2.out _ (HS2.out.kept (by repeat (first | with_reducible exact Kept.refl _ | with_reducible assumption | with_reducible refine Kept.setCell ?_ (by first | (simp; done) | (simp; omega) | omega) _ | with_reducible refine Kept.alloc ?_ _ | with_reducible refine Kept.drewN ?_ _ | with_reducible refine Kept.drew ?_ | with_reducible refine Kept.trans ?_ (by with_reducible assumption) | with_reducible refine Kept.dr ?_ (by with_reducible assumption))))).mono ?_
        rintro e w23 ⟨rfl, hk23⟩
        refine kuz (b := w.heap.size) hk23 (by first | (simp; done) | (simp; omega) | omega) ?_
        intro ha hb hz23_0 hn23_0 hm23_0
        have hf23_0_0 : w23.cell? ⟨w.heap.size, 0, none⟩ = some (.int .i64 x) := (ha _).trans (by first | with_reducible assumption | (simp (maxDischargeDepth := 7) [go_sem]; done) | (simp (maxDischargeDepth := 7) [go_sem, *]; done))
        have hf23_0_1 : w23.cell? ⟨w.heap.size, 1, none⟩ = some (.int .i64 y) := (ha _).trans (by first | with_reducible assumption | (simp (maxDischargeDepth := 7) [go_sem]; done) | (simp (maxDischargeDepth := 7) [go_sem, *]; done))
        try have hg23_0 : ∀ o, w23.frozen? ⟨w.heap.size, o, none⟩ = false := by intro o; rw [hb]; first | (simp (maxDischargeDepth := 7) [go_sem]; done) | (simp (maxDischargeDepth := 7) [go_sem, *]; done)
        clear ha hb
        refine kuz (b := w21.heap.size) hk23 (by first | (simp; done) | (simp; omega) | omega) ?_
        intro ha hb hz23_1 hn23_1 hm23_1
        have hf23_1_0 : w23.cell? ⟨w21.heap.size, 0, none⟩ = some (.int .i64 A2) := (ha _).trans (by first | with_reducible assumption | (simp (maxDischargeDepth := 7) [go_sem]; done) | (simp (maxDischargeDepth := 7) [go_sem, *]; done))
        have hf23_1_1 : w23.cell? ⟨w21.heap.size, 1, none⟩ = some (.int .u64 e3) := (ha _).trans (by first | with_reducible assumption | (simp (maxDischargeDepth := 7) [go_sem]; done) | (simp (maxDischargeDepth := 7) [go_sem, *]; done))
        have hf23_1_2 : w23.cell? ⟨w21.heap.size, 2, none⟩ = some (.int .i64 B2) := (ha _).trans (by first | with_reducible assumption | (simp (maxDischargeDepth := 7) [go_sem]; done) | (simp (maxDischargeDepth := 7) [go_sem, *]; done))
        have hf23_1_3 : w23.cell? ⟨w21.heap.size, 3, none⟩ = some (.int .u64 e4) := (ha _).trans (by first | with_reducible assumption | (simp (maxDischargeDepth := 7) [go_sem]; done) | (simp (maxDischargeDepth := 7) [go_sem, *]; done))
        have hf23_1_4 : w23.cell? ⟨w21.heap.size, 4, none⟩ = some (.int .i64 D) := (ha _).trans (by first | with_reducible assumption | (simp (maxDischargeDepth := 7) [go_sem]; done) | (simp (maxDischargeDepth := 7) [go_sem, *]; done))
        have hf23_1_5 : w23.cell? ⟨w21.heap.size, 5, none⟩ = some (.int .i64 x) := (ha _).trans (by first | with_reducible assumption | (simp (maxDischargeDepth := 7) [go_sem]; done) | (simp (maxDischargeDepth := 7) [go_sem, *]; done))
        have hf23_1_6 : w23.cell? ⟨w21.heap.size, 6, none⟩ = some (.int .i64 y) := (ha _).trans (by first | with_reducible assumption | (simp (maxDischargeDepth := 7) [go_sem]; done) | (simp (maxDischargeDepth := 7) [go_sem, *]; done))
        try have hg23_1 : ∀ o, w23.frozen? ⟨w21.heap.size, o, none⟩ = false := by intro o; rw [hb]; first | (simp (maxDischargeDepth := 7) [go_sem]; done) | (simp (maxDischargeDepth := 7) [go_sem, *]; done)
        clear ha hb
        refine kuz (b := w22.heap.size) hk23 (by first | (simp; done) | (simp; omega) | omega) ?_
        intro ha hb hz23_2 hn23_2 hm23_2
        have hf23_2_0 : w23.cell? ⟨w22.heap.size, 0, none⟩ = some (.int .i64 0) := (ha _).trans (by first | with_reducible assumption | (simp (maxDischargeDepth := 7) [go_sem]; done) | (simp (maxDischargeDepth := 7) [go_sem, *]; done))
        have hf23_2_1 : w23.cell? ⟨w22.heap.size, 1, none⟩ = some (.int .u64 0) := (ha _).trans (by first | with_reducible assumption | (simp (maxDischargeDepth := 7) [go_sem]; done) | (simp (maxDischargeDepth := 7) [go_sem, *]; done))
        try have hg23_2 : ∀ o, w23.frozen? ⟨w22.heap.size, o, none⟩ = false := by intro o; rw [hb]; first | (simp (maxDischargeDepth := 7) [go_sem]; done) | (simp (maxDischargeDepth := 7) [go_sem, *]; done)
        clear ha hb
        try clear hf22_0_0
        try clear hf22_0_1
        try clear hf22_1_0
        try clear hf22_1_1
        try clear hf22_1_2
        try clear hf22_1_3
        try clear hf22_1_4
        try clear hf22_1_5
        try clear hf22_1_6
        try clear hg22_0
        try clear hg22_1
        try clear hz22_1
        go_wp2_with fail
        all_goals first | (go_ret; exact ⟨rfl, (by repeat (first | with_reducible exact Kept.refl _ | with_reducible assumption | with_reducible refine Kept.setCell ?_ (by first | (simp; done) | (simp; omega) | omega) _ | with_reducible refine Kept.alloc ?_ _ | with_reducible refine Kept.drewN ?_ _ | with_reducible refine Kept.drew ?_ | with_reducible refine Kept.trans ?_ (by with_reducible assumption) | with_reducible refine Kept.dr ?_ (by with_reducible assumption)))⟩) | (go_ret; refine ⟨?_, (by repeat (first | with_reducible exact Kept.refl _ | with_reducible assumption | with_reducible refine Kept.setCell ?_ (by first | (simp; done) | (simp; omega) | omega) _ | with_reducible refine Kept.alloc ?_ _ | with_reducible refine Kept.drewN ?_ _ | with_reducible refine Kept.drew ?_ | with_reducible refine Kept.trans ?_ (by with_reducible assumption) | with_reducible refine Kept.dr ?_ (by with_reducible assumption)))⟩; refine retb ?_; simp; done)
      · by_cases h3 : N.chk r = 0
        · have HC2 := Lib.hid (solve_err p2 r c2 g2 0 N (by unfold maxLen; omega) h2)
          have HL2 := Lib.hid (least_err p2 r c2 g2 0 N (by unfold maxLen; omega) h2)
          have HR2 := Lib.hid (resid_ok p2 r c2 g2 0 N x y (by unfold maxLen; omega) h3 HP4.out)
          have hE := sE_hex HX.out HP4.out h2
          generalize wh (N.rr x y r) = A2 at *; generalize wl (N.rr x y r) = e3 at *
          clear HX
          rcases hE with hE | hE | hE
          · rw [hE] at HC2 HL2
            obtain ⟨hz_c9_0, hg_c9_0, hf_c9_0_0, hf_c9_0_1, _⟩ := HO0.out
            go_wp2_with fail
            refine (HC2.out _ (HS2.out.kept (by repeat (first | with_reducible exact Kept.refl _ | with_reducible assumption | with_reducible refine Kept.setCell ?_ (by first | (simp; done) | (simp; omega) | omega) _ | with_reducible refine Kept.alloc ?_ _ | with_reducible refine Kept.drewN ?_ _ | with_reducible refine Kept.drew ?_ | with_reducible refine Kept.trans ?_ (by with_reducible assumption) | with_reducible refine Kept.dr ?_ (by with_reducible assumption))))).mono ?_
            rintro e w21 ⟨rfl, hk21⟩
            refine kuz (b := w.heap.size) hk21 (by first | (simp; done) | (simp; omega) | omega) ?_
            intro ha hb hz21_0 hn21_0 hm21_0
            have hf21_0_0 : w21.cell? ⟨w.heap.size, 0, none⟩ = some (.int .i64 x) := (ha _).trans (by first | with_reducible assumption | (simp (maxDischargeDepth := 7) [go_sem]; done) | (simp (maxDischargeDepth := 7) [go_sem, *]; done))
            have hf21_0_1 : w21.cell? ⟨w.heap.size, 1, none⟩ = some (.int .i64 y) := (ha _).trans (by first | with_reducible assumption | (simp (maxDischargeDepth := 7) [go_sem]; done) | (simp (maxDischargeDepth := 7) [go_sem, *]; done))
            try have hg21_0 : ∀ o, w21.frozen? ⟨w.heap.size, o, none⟩ = false := by intro o; rw [hb]; first | (simp (maxDischargeDepth := 7) [go_sem]; done) | (simp (maxDischargeDepth := 7) [go_sem, *]; done)
            clear ha hb
            try clear hf_c9_0_0
            try clear hf_c9_0_1
            try clear hg_c9_0
            go_wp2_with fail
            refine (HL2.out _ (HS2.out.kept (by repeat (first | with_reducible exact Kept.refl _ | with_reducible assumption | with_reducible refine Kept.setCell ?_ (by first | (simp; done) | (simp; omega) | omega) _ | with_reducible refine Kept.alloc ?_ _ | with_reducible refine Kept.drewN ?_ _ | with_reducible refine Kept.drew ?_ | with_reducible refine Kept.trans ?_ (by with_reducible assumption) | with_reducible refine Kept.dr ?_ (by with_reducible assumption))))).mono ?_
            rintro e w22 ⟨rfl, hk22⟩
            refine kuz (b := w.heap.size) hk22 (by first | (simp; done) | (simp; omega) | omega) ?_
            intro ha hb hz22_0 hn22_0 hm22_0
            have hf22_0_0 : w22.cell? ⟨w.heap.size, 0, none⟩ = some (.int .i64 x) := (ha _).trans (by first | with_reducible assumption | (simp (maxDischargeDepth := 7) [go_sem]; done) | (simp (maxDischargeDepth := 7) [go_sem, *]; done))
            have hf22_0_1 : w22.cell? ⟨w.heap.size, 1, none⟩ = some (.int .i64 y) := (ha _).trans (by first | with_reducible assumption | (simp (maxDischargeDepth := 7) [go_sem]; done) | (simp (maxDischargeDepth := 7) [go_sem, *]; done))
            try have hg22_0 : ∀ o, w22.frozen? ⟨w.heap.size, o, none⟩ = false := by intro o; rw [hb]; first | (simp (maxDischargeDepth := 7) [go_sem]; done) | (simp (maxDischargeDepth := 7) [go_sem, *]; done)
            clear ha hb
            try clear hf21_0_0
            try clear hf21_0_1
            try clear hg21_0
            go_wp2_with fail
            refine (HR2.out _ (HS2.out.kept (by repeat (first | with_reducible exact Kept.refl _ | with_reducible assumption | with_reducible refine Kept.setCell ?_ (by first | (simp; done) | (simp; omega) | omega) _ | with_reducible refine Kept.alloc ?_ _ | with_reducible refine Kept.drewN ?_ _ | with_reducible refine Kept.drew ?_ | with_reducible refine Kept.trans ?_ (by with_reducible assumption) | with_reducible refine Kept.dr ?_ (by with_reducible assumption))))).mono ?_
            rintro e w23 ⟨rfl, hk23⟩
            refine kuz (b := w.heap.size) hk23 (by first | (simp; done) | (simp; omega) | omega) ?_
            intro ha hb hz23_0 hn23_0 hm23_0
            have hf23_0_0 : w23.cell? ⟨w.heap.size, 0, none⟩ = some (.int .i64 x) := (ha _).trans (by first | with_reducible assumption | (simp (maxDischargeDepth := 7) [go_sem]; done) | (simp (maxDischargeDepth := 7) [go_sem, *]; done))
            have hf23_0_1 : w23.cell? ⟨w.heap.size, 1, none⟩ = some (.int .i64 y) := (ha _).trans (by first | with_reducible assumption | (simp (maxDischargeDepth := 7) [go_sem]; done) | (simp (maxDischargeDepth := 7) [go_sem, *]; done))
            try have hg23_0 : ∀ o, w23.frozen? ⟨w.heap.size, o, none⟩ = false := by intro o; rw [hb]; first | (simp (maxDischargeDepth := 7) [go_sem]; done) | (simp (maxDischargeDepth := 7) [go_sem, *]; done)
            clear ha hb
            try clear hf22_0_0
            try clear hf22_0_1
            try clear hg22_0
            go_wp2_with fail
            all_goals first | (go_ret; exact ⟨rfl, (by repeat (first | with_reducible exact Kept.refl _ | with_reducible assumption | with_reducible refine Kept.setCell ?_ (by first | (simp; done) | (simp; omega) | omega) _ | with_reducible refine Kept.alloc ?_ _ | with_reducible refine Kept.drewN ?_ _ | with_reducible refine Kept.drew ?_ | with_reducible refine Kept.trans ?_ (by with_reducible assumption) | with_reducible refine Kept.dr ?_ (by with_reducible assumption)))⟩) | (go_ret; refine ⟨?_, (by repeat (first | with_reducible exact Kept.refl _ | with_reducible assumption | with_reducible refine Kept.setCell ?_ (by first | (simp; done) | (simp; omega) | omega) _ | with_reducible refine Kept.alloc ?_ _ | with_reducible refine Kept.drewN ?_ _ | with_reducible refine Kept.drew ?_ | with_reducible refine Kept.trans ?_ (by with_reducible assumption) | with_reducible refine Kept.dr ?_ (by with_reducible assumption)))⟩; refine retb ?_; simp; done)
          · rw [hE] at HC2 HL2
            obtain ⟨hz_c9_0, hg_c9_0, hf_c9_0_0, hf_c9_0_1, _⟩ := HO0.out
            go_wp2_with fail
            refine (HC2.out _ (HS2.out.kept (by repeat (first | with_reducible exact Kept.refl _ | with_reducible assumption | with_reducible refine Kept.setCell ?_ (by first | (simp; done) | (simp; omega) | omega) _ | with_reducible refine Kept.alloc ?_ _ | with_reducible refine Kept.drewN ?_ _ | with_reducible refine Kept.drew ?_ | with_reducible refine Kept.trans ?_ (by with_reducible assumption) | with_reducible refine Kept.dr ?_ (by with_reducible assumption))))).mono ?_
            rintro e w21 ⟨rfl, hk21⟩
            refine kuz (b := w.heap.size) hk21 (by first | (simp; done) | (simp; omega) | omega) ?_
            intro ha hb hz21_0 hn21_0 hm21_0
            have hf21_0_0 : w21.cell? ⟨w.heap.size, 0, none⟩ = some (.int .i64 x) := (ha _).trans (by first | with_reducible assumption | (simp (maxDischargeDepth := 7) [go_sem]; done) | (simp (maxDischargeDepth := 7) [go_sem, *]; done))
            have hf21_0_1 : w21.cell? ⟨w.heap.size, 1, none⟩ = some (.int .i64 y) := (ha _).trans (by first | with_reducible assumption | (simp (maxDischargeDepth := 7) [go_sem]; done) | (simp (maxDischargeDepth := 7) [go_sem, *]; done))
            try have hg21_0 : ∀ o, w21.frozen? ⟨w.heap.size, o, none⟩ = false := by intro o; rw [hb]; first | (simp (maxDischargeDepth := 7) [go_sem]; done) | (simp (maxDischargeDepth := 7) [go_sem, *]; done)
            clear ha hb
            try clear hf_c9_0_0
            try clear hf_c9_0_1
            try clear hg_c9_0
            go_wp2_with fail
            refine (HL2.out _ (HS2.out.kept (by repeat (first | with_reducible exact Kept.refl _ | with_reducible assumption | with_reducible refine Kept.setCell ?_ (by first | (simp; done) | (simp; omega) | omega) _ | with_reducible refine Kept.alloc ?_ _ | with_reducible refine Kept.drewN ?_ _ | with_reducible refine Kept.drew ?_ | with_reducible refine Kept.trans ?_ (by with_reducible assumption) | with_reducible refine Kept.dr ?_ (by with_reducible assumption))))).mono ?_
            rintro e w22 ⟨rfl, hk22⟩
            refine kuz (b := w.heap.size) hk22 (by first | (simp; done) | (simp; omega) | omega) ?_
            intro ha hb hz22_0 hn22_0 hm22_0
            have hf22_0_0 : w22.cell? ⟨w.heap.size, 0, none⟩ = some (.int .i64 x) := (ha _).trans (by first | with_reducible assumption | (simp (maxDischargeDepth := 7) [go_sem]; done) | (simp (maxDischargeDepth := 7) [go_sem, *]; done))
            have hf22_0_1 : w22.cell? ⟨w.heap.size, 1, none⟩ = some (.int .i64 y) := (ha _).trans (by first | with_reducible assumption | (simp (maxDischargeDepth := 7) [go_sem]; done) | (simp (maxDischargeDepth := 7) [go_sem, *]; done))
            try have hg22_0 : ∀ o, w22.frozen? ⟨w.heap.size, o, none⟩ = false := by intro o; rw [hb]; first | (simp (maxDischargeDepth := 7) [go_sem]; done) | (simp (maxDischargeDepth := 7) [go_sem, *]; done)
            clear ha hb
            try clear hf21_0_0
            try clear hf21_0_1
            try clear hg21_0
            go_wp2_with fail
            refine (HR2.out _ (HS2.out.kept (by repeat (first | with_reducible exact Kept.refl _ | with_reducible assumption | with_reducible refine Kept.setCell ?_ (by first | (simp; done) | (simp; omega) | omega) _ | with_reducible refine Kept.alloc ?_ _ | with_reducible refine Kept.drewN ?_ _ | with_reducible refine Kept.drew ?_ | with_reducible refine Kept.trans ?_ (by with_reducible assumption) | with_reducible refine Kept.dr ?_ (by with_reducible assumption))))).mono ?_
            rintro e w23 ⟨rfl, hk23⟩
            refine kuz (b := w.heap.size) hk23 (by first | (simp; done) | (simp; omega) | omega) ?_
            intro ha hb hz23_0 hn23_0 hm23_0
            have hf23_0_0 : w23.cell? ⟨w.heap.size, 0, none⟩ = some (.int .i64 x) := (ha _).trans (by first | with_reducible assumption | (simp (maxDischargeDepth := 7) [go_sem]; done) | (simp (maxDischargeDepth := 7) [go_sem, *]; done))
            have hf23_0_1 : w23.cell? ⟨w.heap.size, 1, none⟩ = some (.int .i64 y) := (ha _).trans (by first | with_reducible assumption | (simp (maxDischargeDepth := 7) [go_sem]; done) | (simp (maxDischargeDepth := 7) [go_sem, *]; done))
            try have hg23_0 : ∀ o, w23.frozen? ⟨w.heap.size, o, none⟩ = false := by intro o; rw [hb]; first | (simp (maxDischargeDepth := 7) [go_sem]; done) | (simp (maxDischargeDepth := 7) [go_sem, *]; done)
            clear ha hb
            try clear hf22_0_0
            try clear hf22_0_1
            try clear hg22_0
            go_wp2_with fail
            all_goals first | (go_ret; exact ⟨rfl, (by repeat (first | with_reducible exact Kept.refl _ | with_reducible assumption | with_reducible refine Kept.setCell ?_ (by first | (simp; done) | (simp; omega) | omega) _ | with_reducible refine Kept.alloc ?_ _ | with_reducible refine Kept.drewN ?_ _ | with_reducible refine Kept.drew ?_ | with_reducible refine Kept.trans ?_ (by with_reducible assumption) | with_reducible refine Kept.dr ?_ (by with_reducible assumption)))⟩) | (go_ret; refine ⟨?_, (by repeat (first | with_reducible exact Kept.refl _ | with_reducible assumption | with_reducible refine Kept.setCell ?_ (by first | (simp; done) | (simp; omega) | omega) _ | with_reducible refine Kept.alloc ?_ _ | with_reducible refine Kept.drewN ?_ _ | with_reducible refine Kept.drew ?_ | with_reducible refine Kept.trans ?_ (by with_reducible assumption) | with_reducible refine Kept.dr ?_ (by with_reducible assumption)))⟩; refine retb ?_; simp; done)
          · rw [hE] at HC2 HL2
            obtain ⟨hz_c9_0, hg_c9_0, hf_c9_0_0, hf_c9_0_1, _⟩ := HO0.out
            go_wp2_with fail
            refine (HC2.out _ (HS2.out.kept (by repeat (first | with_reducible exact Kept.refl _ | with_reducible assumption | with_reducible refine Kept.setCell ?_ (by first | (simp; done) | (simp; omega) | omega) _ | with_reducible refine Kept.alloc ?_ _ | with_reducible refine Kept.drewN ?_ _ | with_reducible refine Kept.drew ?_ | with_reducible refine Kept.trans ?_ (by with_reducible assumption) | with_reducible refine Kept.dr ?_ (by with_reducible assumption))))).mono ?_
            rintro e w21 ⟨rfl, hk21⟩
            refine kuz (b := w.heap.size) hk21 (by first | (simp; done) | (simp; omega) | omega) ?_
            intro ha hb hz21_0 hn21_0 hm21_0
            have hf21_0_0 : w21.cell? ⟨w.heap.size, 0, none⟩ = some (.int .i64 x) := (ha _).trans (by first | with_reducible assumption | (simp (maxDischargeDepth := 7) [go_sem]; done) | (simp (maxDischargeDepth := 7) [go_sem, *]; done))
            have hf21_0_1 : w21.cell? ⟨w.heap.size, 1, none⟩ = some (.int .i64 y) := (ha _).trans (by first | with_reducible assumption | (simp (maxDischargeDepth := 7) [go_sem]; done) | (simp (maxDischargeDepth := 7) [go_sem, *]; done))
            try have hg21_0 : ∀ o, w21.frozen? ⟨w.heap.size, o, none⟩ = false := by intro o; rw [hb]; first | (simp (maxDischargeDepth := 7) [go_sem]; done) | (simp (maxDischargeDepth := 7) [go_sem, *]; done)
            clear ha hb
            try clear hf_c9_0_0
            try clear hf_c9_0_1
            try clear hg_c9_0
            go_wp2_with fail
            refine (HL2.out _ (HS2.out.kept (by repeat (first | with_reducible exact Kept.refl _ | with_reducible assumption | with_reducible refine Kept.setCell ?_ (by first | (simp; done) | (simp; omega) | omega) _ | with_reducible refine Kept.alloc ?_ _ | with_reducible refine Kept.drewN ?_ _ | with_reducible refine Kept.drew ?_ | with_reducible refine Kept.trans ?_ (by with_reducible assumption) | with_reducible refine Kept.dr ?_ (by with_reducible assumption))))).mono ?_
            rintro e w22 ⟨rfl, hk22⟩
            refine kuz (b := w.heap.size) hk22 (by first | (simp; done) | (simp; omega) | omega) ?_
            intro ha hb hz22_0 hn22_0 hm22_0
            have hf22_0_0 : w22.cell? ⟨w.heap.size, 0, none⟩ = some (.int .i64 x) := (ha _).trans (by first | with_reducible assumption | (simp (maxDischargeDepth := 7) [go_sem]; done) | (simp (maxDischargeDepth := 7) [go_sem, *]; done))
            have hf22_0_1 : w22.cell? ⟨w.heap.size, 1, none⟩ = some (.int .i64 y) := (ha _).trans (by first | with_reducible assumption | (simp (maxDischargeDepth := 7) [go_sem]; done) | (simp (maxDischargeDepth := 7) [go_sem, *]; done))
            try have hg22_0 : ∀ o, w22.frozen? ⟨w.heap.size, o, none⟩ = false := by intro o; rw [hb]; first | (simp (maxDischargeDepth := 7) [go_sem]; done) | (simp (maxDischargeDepth := 7) [go_sem, *]; done)
            clear ha hb
            try clear hf21_0_0
            try clear hf21_0_1
            try clear hg21_0
            go_wp2_with fail
            refine (HR2.out _ (HS2.out.kept (by repeat (first | with_reducible exact Kept.refl _ | with_reducible assumption | with_reducible refine Kept.setCell ?_ (by first | (simp; done) | (simp; omega) | omega) _ | with_reducible refine Kept.alloc ?_ _ | with_reducible refine Kept.drewN ?_ _ | with_reducible refine Kept.drew ?_ | with_reducible refine Kept.trans ?_ (by with_reducible assumption) | with_reducible refine Kept.dr ?_ (by with_reducible assumption))))).mono ?_
            rintro e w23 ⟨rfl, hk23⟩
            refine kuz (b := w.heap.size) hk23 (by first | (simp; done) | (simp; omega) | omega) ?_
            intro ha hb hz23_0 hn23_0 hm23_0
            have hf23_0_0 : w23.cell? ⟨w.heap.size, 0, none⟩ = some (.int .i64 x) := (ha _).trans (by first | with_reducible assumption | (simp (maxDischargeDepth := 7) [go_sem]; done) | (simp (maxDischargeDepth := 7) [go_sem, *]; done))
            have hf23_0_1 : w23.cell? ⟨w.heap.size, 1, none⟩ = some (.int .i64 y) := (ha _).trans (by first | with_reducible assumption | (simp (maxDischargeDepth := 7) [go_sem]; done) | (simp (maxDischargeDepth := 7) [go_sem, *]; done))
            try have hg23_0 : ∀ o, w23.frozen? ⟨w.heap.size, o, none⟩ = false := by intro o; rw [hb]; first | (simp (maxDischargeDepth := 7) [go_sem]; done) | (simp (maxDischargeDepth := 7) [go_sem, *]; done)
            clear ha hb
            try clear hf22_0_0
            try clear hf22_0_1
            try clear hg22_0
            go_wp2_with fail
            all_goals first | (go_ret; exact ⟨rfl, (by repeat (first | with_reducible exact Kept.refl _ | with_reducible assumption | with_reducible refine Kept.setCell ?_ (by first | (simp; done) | (simp; omega) | omega) _ | with_reducible refine Kept.alloc ?_ _ | with_reducible refine Kept.drewN ?_ _ | with_reducible refine Kept.drew ?_ | with_reducible refine Kept.trans ?_ (by with_reducible assumption) | with_reducible refine Kept.dr ?_ (by with_reducible assumption)))⟩) | (go_ret; refine ⟨?_, (by repeat (first | with_reducible exact Kept.refl _ | with_reducible assumption | with_reducible refine Kept.setCell ?_ (by first | (simp; done) | (simp; omega) | omega) _ | with_reducible refine Kept.alloc ?_ _ | with_reducible refine Kept.drewN ?_ _ | with_reducible refine Kept.drew ?_ | with_reducible refine Kept.trans ?_ (by with_reducible assumption) | with_reducible refine Kept.dr ?_ (by with_reducible assumption)))⟩; refine retb ?_; simp; done)
        · have HC2 := Lib.hid (solve_err p2 r c2 g2 0 N (by unfold maxLen; omega) h2)
          have HL2 := Lib.hid (least_err p2 r c2 g2 0 N (by unfold maxLen; omega) h2)
          have HR2 := Lib.hid (resid_no p2 r c2 g2 0 N x y (by unfold maxLen; omega) h3)
          have hE := sE_hex HX.out HP4.out h2
          obtain ⟨E1, hE1⟩ : ∃ E1, N.chk r = E1 := ⟨_, rfl⟩
          rw [hE1] at HR2 h3
          clear hE1
          clear HX
          rcases hE with hE | hE | hE
          · rw [hE] at HC2 HL2
            obtain ⟨hz_c9_0, hg_c9_0, hf_c9_0_0, hf_c9_0_1, _⟩ := HO0.out
            go_wp2_with fail
            refine (HC2.out _ (HS2.out.kept (by repeat (first | with_reducible exact Kept.refl _ | with_reducible assumption | with_reducible refine Kept.setCell ?_ (by first | (simp; done) | (simp; omega) | omega) _ | with_reducible refine Kept.alloc ?_ _ | with_reducible refine Kept.drewN ?_ _ | with_reducible refine Kept.drew ?_ | with_reducible refine Kept.trans ?_ (by with_reducible assumption) | with_reducible refine Kept.dr ?_ (by with_reducible assumption))))).mono ?_
            rintro e w21 ⟨rfl, hk21⟩
            refine kuz (b := w.heap.size) hk21 (by first | (simp; done) | (simp; omega) | omega) ?_
            intro ha hb hz21_0 hn21_0 hm21_0
            have hf21_0_0 : w21.cell? ⟨w.heap.size, 0, none⟩ = some (.int .i64 x) := (ha _).trans (by first | with_reducible assumption | (simp (maxDischargeDepth := 7) [go_sem]; done) | (simp (maxDischargeDepth := 7) [go_sem, *]; done))
            have hf21_0_1 : w21.cell? ⟨w.heap.size, 1, none⟩ = some (.int .i64 y) := (ha _).trans (by first | with_reducible assumption | (simp (maxDischargeDepth := 7) [go_sem]; done) | (simp (maxDischargeDepth := 7) [go_sem, *]; done))
            try have hg21_0 : ∀ o, w21.frozen? ⟨w.heap.size, o, none⟩ = false := by intro o; rw [hb]; first | (simp (maxDischargeDepth := 7) [go_sem]; done) | (simp (maxDischargeDepth := 7) [go_sem, *]; done)
            clear ha hb
            try clear hf_c9_0_0
            try clear hf_c9_0_1
            try clear hg_c9_0
            go_wp2_with fail
            refine (HL2.out _ (HS2.out.kept (by repeat (first | with_reducible exact Kept.refl _ | with_reducible assumption | with_reducible refine Kept.setCell ?_ (by first | (simp; done) | (simp; omega) | omega) _ | with_reducible refine Kept.alloc ?_ _ | with_reducible refine Kept.drewN ?_ _ | with_reducible refine Kept.drew ?_ | with_reducible refine Kept.trans ?_ (by with_reducible assumption) | with_reducible refine Kept.dr ?_ (by with_reducible assumption))))).mono ?_
            rintro e w22 ⟨rfl, hk22⟩
            refine kuz (b := w.heap.size) hk22 (by first | (simp; done) | (simp; omega) | omega) ?_
            intro ha hb hz22_0 hn22_0 hm22_0
            have hf22_0_0 : w22.cell? ⟨w.heap.size, 0, none⟩ = some (.int .i64 x) := (ha _).trans (by first | with_reducible assumption | (simp (maxDischargeDepth := 7) [go_sem]; done) | (simp (maxDischargeDepth := 7) [go_sem, *]; done))
            have hf22_0_1 : w22.cell? ⟨w.heap.size, 1, none⟩ = some (.int .i64 y) := (ha _).trans (by first | with_reducible assumption | (simp (maxDischargeDepth := 7) [go_sem]; done) | (simp (maxDischargeDepth := 7) [go_sem, *]; done))
            try have hg22_0 : ∀ o, w22.frozen? ⟨w.heap.size, o, none⟩ = false := by intro o; rw [hb]; first | (simp (maxDischargeDepth := 7) [go_sem]; done) | (simp (maxDischargeDepth := 7) [go_sem, *]; done)
            clear ha hb
            try clear hf21_0_0
            try clear hf21_0_1
            try clear hg21_0
            go_wp2_with fail
            refine (HR2.out _ (HS2.out.kept (by repeat (first | with_reducible exact Kept.refl _ | with_reducible assumption | with_reducible refine Kept.setCell ?_ (by first | (simp; done) | (simp; omega) | omega) _ | with_reducible refine Kept.alloc ?_ _ | with_reducible refine Kept.drewN ?_ _ | with_reducible refine Kept.drew ?_ | with_reducible refine Kept.trans ?_ (by with_reducible assumption) | with_reducible refine Kept.dr ?_ (by with_reducible assumption))))).mono ?_
            rintro e w23 ⟨rfl, hk23⟩
            refine kuz (b := w.heap.size) hk23 (by first | (simp; done) | (simp; omega) | omega) ?_
            intro ha hb hz23_0 hn23_0 hm23_0
            have hf23_0_0 : w23.cell? ⟨w.heap.size, 0, none⟩ = some (.int .i64 x) := (ha _).trans (by first | with_reducible assumption | (simp (maxDischargeDepth := 7) [go_sem]; done) | (simp (maxDischargeDepth := 7) [go_sem, *]; done))
            have hf23_0_1 : w23.cell? ⟨w.heap.size, 1, none⟩ = some (.int .i64 y) := (ha _).trans (by first | with_reducible assumption | (simp (maxDischargeDepth := 7) [go_sem]; done) | (simp (maxDischargeDepth := 7) [go_sem, *]; done))
            try have hg23_0 : ∀ o, w23.frozen? ⟨w.heap.size, o, none⟩ = false := by intro o; rw [hb]; first | (simp (maxDischargeDepth := 7) [go_sem]; done) | (simp (maxDischargeDepth := 7) [go_sem, *]; done)
            clear ha hb
            try clear hf22_0_0
            try clear hf22_0_1
            try clear hg22_0
            go_wp2_with fail
            all_goals first | (go_ret; exact ⟨rfl, (by repeat (first | with_reducible exact Kept.refl _ | with_reducible assumption | with_reducible refine Kept.setCell ?_ (by first | (simp; done) | (simp; omega) | omega) _ | with_reducible refine Kept.alloc ?_ _ | with_reducible refine Kept.drewN ?_ _ | with_reducible refine Kept.drew ?_ | with_reducible refine Kept.trans ?_ (by with_reducible assumption) | with_reducible refine Kept.dr ?_ (by with_reducible assumption)))⟩) | (go_ret; refine ⟨?_, (by repeat (first | with_reducible exact Kept.refl _ | with_reducible assumption | with_reducible refine Kept.setCell ?_ (by first | (simp; done) | (simp; omega) | omega) _ | with_reducible refine Kept.alloc ?_ _ | with_reducible refine Kept.drewN ?_ _ | with_reducible refine Kept.drew ?_ | with_reducible refine Kept.trans ?_ (by with_reducible assumption) | with_reducible refine Kept.dr ?_ (by with_reducible assumption)))⟩; refine retb ?_; simp; done)
          · rw [hE] at HC2 HL2
            obtain ⟨hz_c9_0, hg_c9_0, hf_c9_0_0, hf_c9_0_1, _⟩ := HO0.out
            go_wp2_with fail
            refine (HC2.out _ (HS2.out.kept (by repeat (first | with_reducible exact Kept.refl _ | with_reducible assumption | with_reducible refine Kept.setCell ?_ (by first | (simp; done) | (simp; omega) | omega) _ | with_reducible refine Kept.alloc ?_ _ | with_reducible refine Kept.drewN ?_ _ | with_reducible refine Kept.drew ?_ | with_reducible refine Kept.trans ?_ (by with_reducible assumption) | with_reducible refine Kept.dr ?_ (by with_reducible assumption))))).mono ?_
            rintro e w21 ⟨rfl, hk21⟩
            refine kuz (b := w.heap.size) hk21 (by first | (simp; done) | (simp; omega) | omega) ?_
            intro ha hb hz21_0 hn21_0 hm21_0
            have hf21_0_0 : w21.cell? ⟨w.heap.size, 0, none⟩ = some (.int .i64 x) := (ha _).trans (by first | with_reducible assumption | (simp (maxDischargeDepth := 7) [go_sem]; done) | (simp (maxDischargeDepth := 7) [go_sem, *]; done))
            have hf21_0_1 : w21.cell? ⟨w.heap.size, 1, none⟩ = some (.int .i64 y) := (ha _).trans (by first | with_reducible assumption | (simp (maxDischargeDepth := 7) [go_sem]; done) | (simp (maxDischargeDepth := 7) [go_sem, *]; done))
            try have hg21_0 : ∀ o, w21.frozen? ⟨w.heap.size, o, none⟩ = false := by intro o; rw [hb]; first | (simp (maxDischargeDepth := 7) [go_sem]; done) | (simp (maxDischargeDepth := 7) [go_sem, *]; done)
            clear ha hb
            try clear hf_c9_0_0
            try clear hf_c9_0_1
            try clear hg_c9_0
            go_wp2_with fail
            refine (HL2.out _ (HS2.out.kept (by repeat (first | with_reducible exact Kept.refl _ | with_reducible assumption | with_reducible refine Kept.setCell ?_ (by first | (simp; done) | (simp; omega) | omega) _ | with_reducible refine Kept.alloc ?_ _ | with_reducible refine Kept.drewN ?_ _ | with_reducible refine Kept.drew ?_ | with_reducible refine Kept.trans ?_ (by with_reducible assumption) | with_reducible refine Kept.dr ?_ (by with_reducible assumption))))).mono ?_
            rintro e w22 ⟨rfl, hk22⟩
            refine kuz (b := w.heap.size) hk22 (by first | (simp; done) | (simp; omega) | omega) ?_
            intro ha hb hz22_0 hn22_0 hm22_0
            have hf22_0_0 : w22.cell? ⟨w.heap.size, 0, none⟩ = some (.int .i64 x) := (ha _).trans (by first | with_reducible assumption | (simp (maxDischargeDepth := 7) [go_sem]; done) | (simp (maxDischargeDepth := 7) [go_sem, *]; done))
            have hf22_0_1 : w22.cell? ⟨w.heap.size, 1, none⟩ = some (.int .i64 y) := (ha _).trans (by first | with_reducible assumption | (simp (maxDischargeDepth := 7) [go_sem]; done) | (simp (maxDischargeDepth := 7) [go_sem, *]; done))
            try have hg22_0 : ∀ o, w22.frozen? ⟨w.heap.size, o, none⟩ = false := by intro o; rw [hb]; first | (simp (maxDischargeDepth := 7) [go_sem]; done) | (simp (maxDischargeDepth := 7) [go_sem, *]; done)
            clear ha hb
            try clear hf21_0_0
            try clear hf21_0_1
            try clear hg21_0
            go_wp2_with fail
            refine (HR2.out _ (HS2.out.kept (by repeat (first | with_reducible exact Kept.refl _ | with_reducible assumption | with_reducible refine Kept.setCell ?_ (by first | (simp; done) | (simp; omega) | omega) _ | with_reducible refine Kept.alloc ?_ _ | with_reducible refine Kept.drewN ?_ _ | with_reducible refine Kept.drew ?_ | with_reducible refine Kept.trans ?_ (by with_reducible assumption) | with_reducible refine Kept.dr ?_ (by with_reducible assumption))))).mono ?_
            rintro e w23 ⟨rfl, hk23⟩
            refine kuz (b := w.heap.size) hk23 (by first | (simp; done) | (simp; omega) | omega) ?_
            intro ha hb hz23_0 hn23_0 hm23_0
            have hf23_0_0 : w23.cell? ⟨w.heap.size, 0, none⟩ = some (.int .i64 x) := (ha _).trans (by first | with_reducible assumption | (simp (maxDischargeDepth := 7) [go_sem]; done) | (simp (maxDischargeDepth := 7) [go_sem, *]; done))
            have hf23_0_1 : w23.cell? ⟨w.heap.size, 1, none⟩ = some (.int .i64 y) := (ha _).trans (by first | with_reducible assumption | (simp (maxDischargeDepth := 7) [go_sem]; done) | (simp (maxDischargeDepth := 7) [go_sem, *]; done))
            try have hg23_0 : ∀ o, w23.frozen? ⟨w.heap.size, o, none⟩ = false := by intro o; rw [hb]; first | (simp (maxDischargeDepth := 7) [go_sem]; done) | (simp (maxDischargeDepth := 7) [go_sem, *]; done)
            clear ha hb
            try clear hf22_0_0
            try clear hf22_0_1
            try clear hg22_0
            go_wp2_with fail
            all_goals first | (go_ret; exact ⟨rfl, (by repeat (first | with_reducible exact Kept.refl _ | with_reducible assumption | with_reducible refine Kept.setCell ?_ (by first | (simp; done) | (simp; omega) | omega) _ | with_reducible refine Kept.alloc ?_ _ | with_reducible refine Kept.drewN ?_ _ | with_reducible refine Kept.drew ?_ | with_reducible refine Kept.trans ?_ (by with_reducible assumption) | with_reducible refine Kept.dr ?_ (by with_reducible assumption)))⟩) | (go_ret; refine ⟨?_, (by repeat (first | with_reducible exact Kept.refl _ | with_reducible assumption | with_reducible refine Kept.setCell ?_ (by first | (simp; done) | (simp; omega) | omega) _ | with_reducible refine Kept.alloc ?_ _ | with_reducible refine Kept.drewN ?_ _ | with_reducible refine Kept.drew ?_ | with_reducible refine Kept.trans ?_ (by with_reducible assumption) | with_reducible refine Kept.dr ?_ (by with_reducible assumption)))⟩; refine retb ?_; simp; done)
          · rw [hE] at HC2 HL2
            obtain ⟨hz_c9_0, hg_c9_0, hf_c9_0_0, hf_c9_0_1, _⟩ := HO0.out
            go_wp2_with fail
            refine (HC2.out _ (HS2.out.kept (by repeat (first | with_reducible exact Kept.refl _ | with_reducible assumption | with_reducible refine Kept.setCell ?_ (by first | (simp; done) | (simp; omega) | omega) _ | with_reducible refine Kept.alloc ?_ _ | with_reducible refine Kept.drewN ?_ _ | with_reducible refine Kept.drew ?_ | with_reducible refine Kept.trans ?_ (by with_reducible assumption) | with_reducible refine Kept.dr ?_ (by with_reducible assumption))))).mono ?_
            rintro e w21 ⟨rfl, hk21⟩
            refine kuz (b := w.heap.size) hk21 (by first | (simp; done) | (simp; omega) | omega) ?_
            intro ha hb hz21_0 hn21_0 hm21_0
            have hf21_0_0 : w21.cell? ⟨w.heap.size, 0, none⟩ = some (.int .i64 x) := (ha _).trans (by first | with_reducible assumption | (simp (maxDischargeDepth := 7) [go_sem]; done) | (simp (maxDischargeDepth := 7) [go_sem, *]; done))
            have hf21_0_1 : w21.cell? ⟨w.heap.size, 1, none⟩ = some (.int .i64 y) := (ha _).trans (by first | with_reducible assumption | (simp (maxDischargeDepth := 7) [go_sem]; done) | (simp (maxDischargeDepth := 7) [go_sem, *]; done))
            try have hg21_0 : ∀ o, w21.frozen? ⟨w.heap.size, o, none⟩ = false := by intro o; rw [hb]; first | (simp (maxDischargeDepth := 7) [go_sem]; done) | (simp (maxDischargeDepth := 7) [go_sem, *]; done)
            clear ha hb
            try clear hf_c9_0_0
            try clear hf_c9_0_1
            try clear hg_c9_0
            go_wp2_with fail
            refine (HL2.out _ (HS2.out.kept (by repeat (first | with_reducible exact Kept.refl _ | with_reducible assumption | with_reducible refine Kept.setCell ?_ (by first | (simp; done) | (simp; omega) | omega) _ | with_reducible refine Kept.alloc ?_ _ | with_reducible refine Kept.drewN ?_ _ | with_reducible refine Kept.drew ?_ | with_reducible refine Kept.trans ?_ (by with_reducible assumption) | with_reducible refine Kept.dr ?_ (by with_reducible assumption))))).mono ?_
            rintro e w22 ⟨rfl, hk22⟩
            refine kuz (b := w.heap.size) hk22 (by first | (simp; done) | (simp; omega) | omega) ?_
            intro ha hb hz22_0 hn22_0 hm22_0
            have hf22_0_0 : w22.cell? ⟨w.heap.size, 0, none⟩ = some (.int .i64 x) := (ha _).trans (by first | with_reducible assumption | (simp (maxDischargeDepth := 7) [go_sem]; done) | (simp (maxDischargeDepth := 7) [go_sem, *]; done))
            have hf22_0_1 : w22.cell? ⟨w.heap.size, 1, none⟩ = some (.int .i64 y) := (ha _).trans (by first | with_reducible assumption | (simp (maxDischargeDepth := 7) [go_sem]; done) | (simp (maxDischargeDepth := 7) [go_sem, *]; done))
            try have hg22_0 : ∀ o, w22.frozen? ⟨w.heap.size, o, none⟩ = false := by intro o; rw [hb]; first | (simp (maxDischargeDepth := 7) [go_sem]; done) | (simp (maxDischargeDepth := 7) [go_sem, *]; done)
            clear ha hb
            try clear hf21_0_0
            try clear hf21_0_1
            try clear hg21_0
            go_wp2_with fail
            refine (HR2.out _ (HS2.out.kept (by repeat (first | with_reducible exact Kept.refl _ | with_reducible assumption | with_reducible refine Kept.setCell ?_ (by first | (simp; done) | (simp; omega) | omega) _ | with_reducible refine Kept.alloc ?_ _ | with_reducible refine Kept.drewN ?_ _ | with_reducible refine Kept.drew ?_ | with_reducible refine Kept.trans ?_ (by with_reducible assumption) | with_reducible refine Kept.dr ?_ (by with_reducible assumption))))).mono ?_
            rintro e w23 ⟨rfl, hk23⟩
            refine kuz (b := w.heap.size) hk23 (by first | (simp; done) | (simp; omega) | omega) ?_
            intro ha hb hz23_0 hn23_0 hm23_0
            have hf23_0_0 : w23.cell? ⟨w.heap.size, 0, none⟩ = some (.int .i64 x) := (ha _).trans (by first | with_reducible assumption | (simp (maxDischargeDepth := 7) [go_sem]; done) | (simp (maxDischargeDepth := 7) [go_sem, *]; done))
            have hf23_0_1 : w23.cell? ⟨w.heap.size, 1, none⟩ = some (.int .i64 y) := (ha _).trans (by first | with_reducible assumption | (simp (maxDischargeDepth := 7) [go_sem]; done) | (simp (maxDischargeDepth := 7) [go_sem, *]; done))
            try have hg23_0 : ∀ o, w23.frozen? ⟨w.heap.size, o, none⟩ = false := by intro o; rw [hb]; first | (simp (maxDischargeDepth := 7) [go_sem]; done) | (simp (maxDischargeDepth := 7) [go_sem, *]; done)
            clear ha hb
            try clear hf22_0_0
            try clear hf22_0_1
            try clear hg22_0
            go_wp2_with fail
            all_goals first | (go_ret; exact ⟨rfl, (by repeat (first | with_reducible exact Kept.refl _ | with_reducible assumption | with_reducible refine Kept.setCell ?_ (by first | (simp; done) | (simp; omega) | omega) _ | with_reducible refine Kept.alloc ?_ _ | with_reducible refine Kept.drewN ?_ _ | with_reducible refine Kept.drew ?_ | with_reducible refine Kept.trans ?_ (by with_reducible assumption) | with_reducible refine Kept.dr ?_ (by with_reducible assumption)))⟩) | (go_ret; refine ⟨?_, (by repeat (first | with_reducible exact Kept.refl _ | with_reducible assumption | with_reducible refine Kept.setCell ?_ (by first | (simp; done) | (simp; omega) | omega) _ | with_reducible refine Kept.alloc ?_ _ | with_reducible refine Kept.drewN ?_ _ | with_reducible refine Kept.drew ?_ | with_reducible refine Kept.trans ?_ (by with_reducible assumption) | with_reducible refine Kept.dr ?_ (by with_reducible assumption)))⟩; refine retb ?_; simp; done)
set_option maxHeartbeats 4000000 in
set_option maxRecDepth 100000 in
theorem lawi_LsqExact (p : Option Addr) (n c b o : Nat) (M : Ms) (m : Nat) (x y : Int) (hl : n ≤ c) (hc : c ≤ maxLen) (hm2 : m ≤ 20) (hmc : (n ≤ 20 ∧ m = n) ∨ (20 < n ∧ m = 20)) (fs : ∀ i, i < m → (-9223372036854775808 ≤ M.a i ∧ M.a i ≤ 9223372036854775807) ∧ (-9223372036854775808 ≤ M.b i ∧ M.b i ≤ 9223372036854775807)) (w : World) (hS : SlM w p m b o M) : Calls Try.prog 9 #[.slice p n c, .agg #[.int .i64 x, .int .i64 y]] w fun e w' => e = .returned (.bool true) ∧ Kept w w' := by
  cases h4 : pok x y
  · have HV0 := pval_w x y
    rw [h4] at HV0
    have HV := Lib.hid HV0
    clear HV0
    go_enter Try.func9, Try.ntmps9
    go_wp2_with fail
    with_reducible refine (awake_w _).mono ?_
    rintro e w1 ⟨rfl, hk1⟩
    refine kuz (b := w.heap.size) hk1 (by first | (simp; done) | (simp; omega) | omega) ?_
    intro ha hb hz1_0 hn1_0 hm1_0
    have hf1_0_0 : w1.cell? ⟨w.heap.size, 0, none⟩ = some (.int .i64 x) := (ha _).trans (by first | with_reducible assumption | (simp (maxDischargeDepth := 7) [go_sem]; done) | (simp (maxDischargeDepth := 7) [go_sem, *]; done))
    have hf1_0_1 : w1.cell? ⟨w.heap.size, 1, none⟩ = some (.int .i64 y) := (ha _).trans (by first | with_reducible assumption | (simp (maxDischargeDepth := 7) [go_sem]; done) | (simp (maxDischargeDepth := 7) [go_sem, *]; done))
    try have hg1_0 : ∀ o, w1.frozen? ⟨w.heap.size, o, none⟩ = false := by intro o; rw [hb]; first | (simp (maxDischargeDepth := 7) [go_sem]; done) | (simp (maxDischargeDepth := 7) [go_sem, *]; done)
    clear ha hb
    go_wp2_with fail
    with_reducible refine (HV.out _).mono ?_
    rintro e w2 ⟨rfl, hk2⟩
    refine kuz (b := w.heap.size) hk2 (by first | (simp; done) | (simp; omega) | omega) ?_
    intro ha hb hz2_0 hn2_0 hm2_0
    have hf2_0_0 := (ha _).trans hf1_0_0
    have hf2_0_1 := (ha _).trans hf1_0_1
    have hg2_0 := fun o => (hb o).trans (hg1_0 o)
    clear ha hb
    try clear hf1_0_0
    try clear hf1_0_1
    try clear hg1_0
    go_wp2_with fail
    all_goals (go_ret; exact ⟨rfl, (by repeat (first | with_reducible exact Kept.refl _ | with_reducible assumption | with_reducible refine Kept.setCell ?_ (by first | (simp; done) | (simp; omega) | omega) _ | with_reducible refine Kept.alloc ?_ _ | with_reducible refine Kept.drewN ?_ _ | with_reducible refine Kept.drew ?_ | with_reducible refine Kept.trans ?_ (by with_reducible assumption) | with_reducible refine Kept.dr ?_ (by with_reducible assumption)))⟩)
  · exact exact_law p n c b o M m x y hl hc hm2 hmc fs w hS h4
theorem law_LsqExact (p0 : Option Addr) (n0 c0 b0 o0 : Nat) (F0_0 F0_1 F0_2 F0_3 F0_4 F0_5 : Nat → Int) (x y : Int) (hl0 : n0 ≤ c0) (hm0 : c0 ≤ maxLen) (fb0_0 : ∀ i, i < n0 → -9223372036854775808 ≤ F0_0 i ∧ F0_0 i ≤ 9223372036854775807) (fb0_1 : ∀ i, i < n0 → -9223372036854775808 ≤ F0_1 i ∧ F0_1 i ≤ 9223372036854775807) (fb0_2 : ∀ i, i < n0 → -9223372036854775808 ≤ F0_2 i ∧ F0_2 i ≤ 9223372036854775807) (fb0_3 : ∀ i, i < n0 → -9223372036854775808 ≤ F0_3 i ∧ F0_3 i ≤ 9223372036854775807) (fb0_4 : ∀ i, i < n0 → -9223372036854775808 ≤ F0_4 i ∧ F0_4 i ≤ 9223372036854775807) (fb0_5 : ∀ i, i < n0 → -9223372036854775808 ≤ F0_5 i ∧ F0_5 i ≤ 9223372036854775807) (xa : -9223372036854775808 ≤ x) (xb : x ≤ 9223372036854775807) (ya : -9223372036854775808 ≤ y) (yb : y ≤ 9223372036854775807) (w : World) (hp0 : 0 < n0 → p0 = some ⟨b0, o0, none⟩ ∧ b0 < w.heap.size) (hc0_0 : ∀ i, i < n0 → w.cell? ⟨b0, o0 + (i * 6 + 0), none⟩ = some (.int .i64 (F0_0 i))) (hc0_1 : ∀ i, i < n0 → w.cell? ⟨b0, o0 + (i * 6 + 1), none⟩ = some (.int .i64 (F0_1 i))) (hc0_2 : ∀ i, i < n0 → w.cell? ⟨b0, o0 + (i * 6 + 2), none⟩ = some (.int .i64 (F0_2 i))) (hc0_3 : ∀ i, i < n0 → w.cell? ⟨b0, o0 + (i * 6 + 3), none⟩ = some (.int .i64 (F0_3 i))) (hc0_4 : ∀ i, i < n0 → w.cell? ⟨b0, o0 + (i * 6 + 4), none⟩ = some (.int .i64 (F0_4 i))) (hc0_5 : ∀ i, i < n0 → w.cell? ⟨b0, o0 + (i * 6 + 5), none⟩ = some (.int .i64 (F0_5 i))) :
    Calls Try.prog 9 #[.slice p0 n0 c0, .agg #[.int .i64 x, .int .i64 y]] w fun en w' => en = .returned (.bool true) ∧ Kept w w' := by
  obtain ⟨m, hm, hm2, hmc⟩ := cutm n0
  exact lawi_LsqExact p0 n0 c0 b0 o0 ⟨F0_0, F0_1, F0_2, F0_3, F0_4, F0_5⟩ m x y hl0 hm0 hm2 hmc (fun i hi => ⟨fb0_1 i (by omega), fb0_2 i (by omega)⟩) w ((sl_of p0 n0 c0 b0 o0 F0_0 F0_1 F0_2 F0_3 F0_4 F0_5 w hp0 hc0_0 hc0_1 hc0_2 hc0_3 hc0_4 hc0_5).le hm)
end Go.Proofs.Ytoegcfdlecbcjaa
