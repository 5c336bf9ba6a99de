/-
  Own contracts: layer 13: the document's ground speeds of a set of winds.
-/
import Derived.Test.YtfpgdicacjkfoaaGreatDoorWing
import Derived.Test.YtfpgdicacjkfoaaGreatDoorWinc
import Derived.WalkKit
import Derived.ProofKit
import Derived.OpenShut
import Derived.WalkLawsBesides
import Derived.WalkSpells
import Derived.Lib.Hide
import Derived.Deep.DeepCutAuto
import Derived.Deep.CutBlock
import Derived.Deep.QuietTactic
import Derived.BigQuiet
import Derived.Handy
import Derived.StillTailTactics
import Derived.IntWalk
import Derived.LoopN
import Derived.Deep.RegionHeld3
namespace Go.Proofs.YtfpgdicacjkfoaaGreatDoor
open Go.ChangeShapes Go.WideShapes Go.ChangeAt Go.RowKit
set_option linter.unusedVariables false
set_option linter.unusedSimpArgs false
theorem wcut_dr {w1 x : World} {n : Nat} {args : Array Value} {P : Program} {Q : Ending → World → Prop} (h : Dr w1 x) (g : ∀ x', Dr w1 x' → Calls P n args x' Q) : Calls P n args x Q := g x h
set_option maxHeartbeats 16000000 in
set_option maxRecDepth 100000 in
theorem ref_gi_in (c tl th el eh nl nh : Int) (c_0 : -9223372036854775808 ≤ c) (c_1 : c ≤ 9223372036854775807) (hb : bxB el eh nl nh = true) (t0 : 1 ≤ tl) (t1 : th ≤ 4000) (t2 : tl ≤ th) (w : World) : Calls Tryz.prog 24 #[.int .i64 c, .agg #[.int .i64 tl, .int .i64 th], .agg #[.int .i64 el, .int .i64 eh, .int .i64 nl, .int .i64 nh]] w fun e w' => e = .returned (.tuple #[.agg #[.int .i64 (giL c tl th el eh nl nh), .int .i64 (giH c tl th el eh nl nh)], .int .i64 (giE c tl th el eh nl nh)]) ∧ Kept w w' := by
  have hn : ¬ (bxB el eh nl nh = false ∨ tl < 1 ∨ 4000 < th ∨ th < tl) := by rw [hb]; simp; omega
  have GE2 := Lib.hid (fun k => gi_E2 (c := c) hn k)
  have GE3 := Lib.hid (fun k l => gi_E3 (c := c) hn k l)
  have GE0 := Lib.hid (fun k l => gi_E0 (c := c) hn k l)
  clear hn
  obtain ⟨v1, qv1⟩ : ∃ z, giL c tl th el eh nl nh = z := ⟨_, rfl⟩
  obtain ⟨v2, qv2⟩ : ∃ z, giH c tl th el eh nl nh = z := ⟨_, rfl⟩
  obtain ⟨v3, qv3⟩ : ∃ z, giE c tl th el eh nl nh = z := ⟨_, rfl⟩
  rw [qv1, qv2, qv3]
  rw [qv1, qv2, qv3] at GE2 GE3 GE0
  clear qv1 qv2 qv3
  obtain ⟨⟨e0, e1, e2, e3, e4⟩, n0, n1, n2, n3, n4⟩ := bxB_yes hb
  obtain ⟨⟨a0, a1, a2⟩, d0, d1, d2⟩ := ex_bd c hb
  have HB := fun W => ref_wbox_w el eh nl nh W
  rw [hb] at HB
  obtain ⟨A, qA⟩ : ∃ A, eAl c el eh nl nh = A := ⟨_, rfl⟩
  obtain ⟨B, qB⟩ : ∃ B, eAh c el eh nl nh = B := ⟨_, rfl⟩
  obtain ⟨C, qC⟩ : ∃ C, eCl c el eh nl nh = C := ⟨_, rfl⟩
  obtain ⟨D, qD⟩ : ∃ D, eCh c el eh nl nh = D := ⟨_, rfl⟩
  rw [qA, qB] at a1
  rw [qA] at a0
  rw [qB] at a2
  rw [qC, qD] at d1
  rw [qC] at d0
  rw [qD] at d2
  have i0 := iabs_lim C (by omega) (by omega)
  have i1 := iabs_lim D (by omega) (by omega)
  have A1 := Lib.hid (ref_abs_w C (by omega) (by omega))
  have A2 := Lib.hid (ref_abs_w D (by omega) (by omega))
  rw [sat_iabs C (by omega) (by omega)] at A1
  rw [sat_iabs D (by omega) (by omega)] at A2
  obtain ⟨x1, qx⟩ : ∃ x, gx1 C D = x := ⟨_, rfl⟩
  obtain ⟨x0, qy⟩ : ∃ x, gx0 C D = x := ⟨_, rfl⟩
  have X0 : 0 ≤ x0 ∧ x0 ≤ x1 := by rw [← qx, ← qy]; unfold gx1 gx0; split <;> omega
  obtain ⟨I0, qI⟩ : ∃ x, iabs C = x := ⟨_, rfl⟩
  obtain ⟨I1, qJ⟩ : ∃ x, iabs D = x := ⟨_, rfl⟩
  rw [qI] at A1 i0
  rw [qJ] at A2 i1
  have qx' : mxi I0 I1 = x1 := by rw [← qx, ← qI, ← qJ]; rfl
  have b1 : ∀ (ts : Array TypeId) (ty : TypeId) (w : World), (Builtin.max_ ts ty #[.int .i64 I0, .int .i64 I1]).run Tryz.prog w = .ok (.int .i64 x1) w := fun ts ty w => by rw [run_mx2, qx']
  obtain ⟨m0, qm⟩ : ∃ x, mni I0 I1 = x := ⟨_, rfl⟩
  have b2 : ∀ (ts : Array TypeId) (ty : TypeId) (w : World), (Builtin.min_ ts ty #[.int .i64 I0, .int .i64 I1]).run Tryz.prog w = .ok (.int .i64 m0) w := fun ts ty w => by rw [run_mn2, qm]
  obtain ⟨a_0, qa0⟩ : ∃ a, alo c el nl = a := ⟨_, rfl⟩
  obtain ⟨b_0, qb0⟩ : ∃ b, acr c el nl = b := ⟨_, rfl⟩
  have HP0 := ref_wparts_w c el nl c_0 c_1 (by omega) (by omega) (by omega) (by omega)
  rw [qa0, qb0] at HP0
  have GP0 := Lib.hid HP0
  clear HP0
  obtain ⟨a_2, qa2⟩ : ∃ a, alo c eh nl = a := ⟨_, rfl⟩
  obtain ⟨b_2, qb2⟩ : ∃ b, acr c eh nl = b := ⟨_, rfl⟩
  have HP2 := ref_wparts_w c eh nl c_0 c_1 (by omega) (by omega) (by omega) (by omega)
  rw [qa2, qb2] at HP2
  have GP2 := Lib.hid HP2
  clear HP2
  obtain ⟨a_1, qa1⟩ : ∃ a, alo c el nh = a := ⟨_, rfl⟩
  obtain ⟨b_1, qb1⟩ : ∃ b, acr c el nh = b := ⟨_, rfl⟩
  have HP1 := ref_wparts_w c el nh c_0 c_1 (by omega) (by omega) (by omega) (by omega)
  rw [qa1, qb1] at HP1
  have GP1 := Lib.hid HP1
  clear HP1
  obtain ⟨a_3, qa3⟩ : ∃ a, alo c eh nh = a := ⟨_, rfl⟩
  obtain ⟨b_3, qb3⟩ : ∃ b, acr c eh nh = b := ⟨_, rfl⟩
  have HP3 := ref_wparts_w c eh nh c_0 c_1 (by omega) (by omega) (by omega) (by omega)
  rw [qa3, qb3] at HP3
  have GP3 := Lib.hid HP3
  clear HP3
  obtain ⟨m_0, qm0⟩ : ∃ z, mni a_0 a_2 = z := ⟨_, rfl⟩
  obtain ⟨n_0, qn0⟩ : ∃ z, mxi a_0 a_2 = z := ⟨_, rfl⟩
  have Xm0 : ∀ (ts : Array TypeId) (ty : TypeId) (w : World), (Builtin.min_ ts ty #[.int .i64 a_0, .int .i64 a_2]).run Tryz.prog w = .ok (.int .i64 m_0) w := fun ts ty w => by rw [run_mn2, qm0]
  have Xn0 : ∀ (ts : Array TypeId) (ty : TypeId) (w : World), (Builtin.max_ ts ty #[.int .i64 a_0, .int .i64 a_2]).run Tryz.prog w = .ok (.int .i64 n_0) w := fun ts ty w => by rw [run_mx2, qn0]
  obtain ⟨m_1, qm1⟩ : ∃ z, mni m_0 a_1 = z := ⟨_, rfl⟩
  obtain ⟨n_1, qn1⟩ : ∃ z, mxi n_0 a_1 = z := ⟨_, rfl⟩
  have Xm1 : ∀ (ts : Array TypeId) (ty : TypeId) (w : World), (Builtin.min_ ts ty #[.int .i64 m_0, .int .i64 a_1]).run Tryz.prog w = .ok (.int .i64 m_1) w := fun ts ty w => by rw [run_mn2, qm1]
  have Xn1 : ∀ (ts : Array TypeId) (ty : TypeId) (w : World), (Builtin.max_ ts ty #[.int .i64 n_0, .int .i64 a_1]).run Tryz.prog w = .ok (.int .i64 n_1) w := fun ts ty w => by rw [run_mx2, qn1]
  have qm2 : mni m_1 a_3 = A := by
    rw [← qA, show eAl c el eh nl nh = mn4 (alo c el nl) (alo c el nh) (alo c eh nl) (alo c eh nh) from rfl, qa0, qa1, qa2, qa3, ← qm1, ← qm0]
    unfold mn4 mni; omega
  have qn2 : mxi n_1 a_3 = B := by
    rw [← qB, show eAh c el eh nl nh = mx4 (alo c el nl) (alo c el nh) (alo c eh nl) (alo c eh nh) from rfl, qa0, qa1, qa2, qa3, ← qn1, ← qn0]
    unfold mx4 mxi; omega
  have Xm2 : ∀ (ts : Array TypeId) (ty : TypeId) (w : World), (Builtin.min_ ts ty #[.int .i64 m_1, .int .i64 a_3]).run Tryz.prog w = .ok (.int .i64 A) w := fun ts ty w => by rw [run_mn2, qm2]
  have Xn2 : ∀ (ts : Array TypeId) (ty : TypeId) (w : World), (Builtin.max_ ts ty #[.int .i64 n_1, .int .i64 a_3]).run Tryz.prog w = .ok (.int .i64 B) w := fun ts ty w => by rw [run_mx2, qn2]
  obtain ⟨o_0, qo0⟩ : ∃ z, mni b_0 b_2 = z := ⟨_, rfl⟩
  obtain ⟨g_0, qg0⟩ : ∃ z, mxi b_0 b_2 = z := ⟨_, rfl⟩
  have Xo0 : ∀ (ts : Array TypeId) (ty : TypeId) (w : World), (Builtin.min_ ts ty #[.int .i64 b_0, .int .i64 b_2]).run Tryz.prog w = .ok (.int .i64 o_0) w := fun ts ty w => by rw [run_mn2, qo0]
  have Xg0 : ∀ (ts : Array TypeId) (ty : TypeId) (w : World), (Builtin.max_ ts ty #[.int .i64 b_0, .int .i64 b_2]).run Tryz.prog w = .ok (.int .i64 g_0) w := fun ts ty w => by rw [run_mx2, qg0]
  obtain ⟨o_1, qo1⟩ : ∃ z, mni o_0 b_1 = z := ⟨_, rfl⟩
  obtain ⟨g_1, qg1⟩ : ∃ z, mxi g_0 b_1 = z := ⟨_, rfl⟩
  have Xo1 : ∀ (ts : Array TypeId) (ty : TypeId) (w : World), (Builtin.min_ ts ty #[.int .i64 o_0, .int .i64 b_1]).run Tryz.prog w = .ok (.int .i64 o_1) w := fun ts ty w => by rw [run_mn2, qo1]
  have Xg1 : ∀ (ts : Array TypeId) (ty : TypeId) (w : World), (Builtin.max_ ts ty #[.int .i64 g_0, .int .i64 b_1]).run Tryz.prog w = .ok (.int .i64 g_1) w := fun ts ty w => by rw [run_mx2, qg1]
  have qo2 : mni o_1 b_3 = C := by
    rw [← qC, show eCl c el eh nl nh = mn4 (acr c el nl) (acr c el nh) (acr c eh nl) (acr c eh nh) from rfl, qb0, qb1, qb2, qb3, ← qo1, ← qo0]
    unfold mn4 mni; omega
  have qg2 : mxi g_1 b_3 = D := by
    rw [← qD, show eCh c el eh nl nh = mx4 (acr c el nl) (acr c el nh) (acr c eh nl) (acr c eh nh) from rfl, qb0, qb1, qb2, qb3, ← qg1, ← qg0]
    unfold mx4 mxi; omega
  have Xo2 : ∀ (ts : Array TypeId) (ty : TypeId) (w : World), (Builtin.min_ ts ty #[.int .i64 o_1, .int .i64 b_3]).run Tryz.prog w = .ok (.int .i64 C) w := fun ts ty w => by rw [run_mn2, qo2]
  have Xg2 : ∀ (ts : Array TypeId) (ty : TypeId) (w : World), (Builtin.max_ ts ty #[.int .i64 g_1, .int .i64 b_3]).run Tryz.prog w = .ok (.int .i64 D) w := fun ts ty w => by rw [run_mx2, qg2]
  have GXm0 := Lib.hid Xm0
  clear Xm0
  have GXn0 := Lib.hid Xn0
  clear Xn0
  have GXm1 := Lib.hid Xm1
  clear Xm1
  have GXn1 := Lib.hid Xn1
  clear Xn1
  have GXm2 := Lib.hid Xm2
  clear Xm2
  have GXn2 := Lib.hid Xn2
  clear Xn2
  have GXo0 := Lib.hid Xo0
  clear Xo0
  have GXg0 := Lib.hid Xg0
  clear Xg0
  have GXo1 := Lib.hid Xo1
  clear Xo1
  have GXg1 := Lib.hid Xg1
  clear Xg1
  have GXo2 := Lib.hid Xo2
  clear Xo2
  have GXg2 := Lib.hid Xg2
  clear Xg2
  clear qa0 qb0 qa1 qb1 qa2 qb2 qa3 qb3 qm0 qm1 qm2 qn0 qn1 qn2 qo0 qo1 qo2 qg0 qg1 qg2
  have wu : IntKind.i64.wrap (tl * 1024) = tl * 1024 := IntWalk.i64_in _ (by omega)
  have wv : IntKind.i64.wrap (th * 1024) = th * 1024 := IntWalk.i64_in _ (by omega)
  obtain ⟨u, qu⟩ : ∃ u, tl * 1024 = u := ⟨_, rfl⟩
  obtain ⟨v, qv⟩ : ∃ v, th * 1024 = v := ⟨_, rfl⟩
  rw [qu] at wu
  rw [qv] at wv
  have uu : u ≤ v := by omega
  rw [qC, qD, qx, qu] at GE2
  rw [qA, qC, qD, qx, qu] at GE3
  rw [qA, qB, qC, qD, qx, qy, qu] at GE0
  clear qA qB qC qD hb
  go_enter Tryz.func24, Tryz.ntmps24
  go_wp2_with fail
  with_reducible refine (HB _).mono ?_
  rintro e w1 ⟨rfl, hk1⟩
  refine kuse (b := w.heap.size) hk1 (by first | (simp; done) | (simp; omega) | omega) ?_
  intro ha hb
  have hz1_0 : w.heap.size < w1.heap.size := by have := hk1.size; (try simp at this); omega
  have hn1_0 : ¬ w.heap.size = w1.heap.size := by omega
  have hm1_0 : ¬ w1.heap.size = w.heap.size := by omega
  have hf1_0_0 : w1.cell? ⟨w.heap.size, 0, none⟩ = some (.int .i64 tl) := by first | (rw [ha]; with_reducible assumption) | (simp (maxDischargeDepth := 7) [go_sem, ha]; done) | (rw [ha]; assumption) | (simp (maxDischargeDepth := 7) [go_sem, ha, *]; done)
  have hf1_0_1 : w1.cell? ⟨w.heap.size, 1, none⟩ = some (.int .i64 th) := by first | (rw [ha]; with_reducible assumption) | (simp (maxDischargeDepth := 7) [go_sem, ha]; done) | (rw [ha]; assumption) | (simp (maxDischargeDepth := 7) [go_sem, ha, *]; done)
  try have hg1_0 : ∀ o, w1.frozen? ⟨w.heap.size, o, none⟩ = false := by intro o; first | (simp (maxDischargeDepth := 7) [go_sem, hb]; done) | (rw [hb]; simp (maxDischargeDepth := 7) [go_sem, *]; done)
  clear ha hb
  refine kuse (b := w.heap.size + 1) hk1 (by first | (simp; done) | (simp; omega) | omega) ?_
  intro ha hb
  have hz1_1 : w.heap.size + 1 < w1.heap.size := by have := hk1.size; (try simp at this); omega
  have hn1_1 : ¬ w.heap.size + 1 = w1.heap.size := by omega
  have hm1_1 : ¬ w1.heap.size = w.heap.size + 1 := by omega
  have hf1_1_0 : w1.cell? ⟨w.heap.size + 1, 0, none⟩ = some (.int .i64 el) := by first | (rw [ha]; with_reducible assumption) | (simp (maxDischargeDepth := 7) [go_sem, ha]; done) | (rw [ha]; assumption) | (simp (maxDischargeDepth := 7) [go_sem, ha, *]; done)
  have hf1_1_1 : w1.cell? ⟨w.heap.size + 1, 1, none⟩ = some (.int .i64 eh) := by first | (rw [ha]; with_reducible assumption) | (simp (maxDischargeDepth := 7) [go_sem, ha]; done) | (rw [ha]; assumption) | (simp (maxDischargeDepth := 7) [go_sem, ha, *]; done)
  have hf1_1_2 : w1.cell? ⟨w.heap.size + 1, 2, none⟩ = some (.int .i64 nl) := by first | (rw [ha]; with_reducible assumption) | (simp (maxDischargeDepth := 7) [go_sem, ha]; done) | (rw [ha]; assumption) | (simp (maxDischargeDepth := 7) [go_sem, ha, *]; done)
  have hf1_1_3 : w1.cell? ⟨w.heap.size + 1, 3, none⟩ = some (.int .i64 nh) := by first | (rw [ha]; with_reducible assumption) | (simp (maxDischargeDepth := 7) [go_sem, ha]; done) | (rw [ha]; assumption) | (simp (maxDischargeDepth := 7) [go_sem, ha, *]; done)
  try have hg1_1 : ∀ o, w1.frozen? ⟨w.heap.size + 1, o, none⟩ = false := by intro o; first | (simp (maxDischargeDepth := 7) [go_sem, hb]; done) | (rw [hb]; simp (maxDischargeDepth := 7) [go_sem, *]; done)
  clear ha hb
  refine kuse (b := w.heap.size + 2) hk1 (by first | (simp; done) | (simp; omega) | omega) ?_
  intro ha hb
  have hz1_2 : w.heap.size + 2 < w1.heap.size := by have := hk1.size; (try simp at this); omega
  have hn1_2 : ¬ w.heap.size + 2 = w1.heap.size := by omega
  have hm1_2 : ¬ w1.heap.size = w.heap.size + 2 := by omega
  have hf1_2_0 : w1.cell? ⟨w.heap.size + 2, 0, none⟩ = some (.int .i64 0) := by first | (rw [ha]; with_reducible assumption) | (simp (maxDischargeDepth := 7) [go_sem, ha]; done) | (rw [ha]; assumption) | (simp (maxDischargeDepth := 7) [go_sem, ha, *]; done)
  have hf1_2_1 : w1.cell? ⟨w.heap.size + 2, 1, none⟩ = some (.int .i64 0) := by first | (rw [ha]; with_reducible assumption) | (simp (maxDischargeDepth := 7) [go_sem, ha]; done) | (rw [ha]; assumption) | (simp (maxDischargeDepth := 7) [go_sem, ha, *]; done)
  try have hg1_2 : ∀ o, w1.frozen? ⟨w.heap.size + 2, o, none⟩ = false := by intro o; first | (simp (maxDischargeDepth := 7) [go_sem, hb]; done) | (rw [hb]; simp (maxDischargeDepth := 7) [go_sem, *]; done)
  clear ha hb
  go_wp2_with fail
  with_reducible refine (GP0.out _).mono ?_
  rintro e w' ⟨rfl, rfl⟩
  go_wp2_with fail
  refine wp_loop_rounds 4 ?_
  rw [rounds_succ]
  go_wp2_with fail
  go_quiet (fail)
  go_wp2_with fail
  have Xm0 := GXm0.out
  have Xn0 := GXn0.out
  have Xo0 := GXo0.out
  have Xg0 := GXg0.out
  with_reducible refine (GP2.out _).mono ?_
  rintro e w' ⟨rfl, rfl⟩
  go_wp2_with fail
  clear Xm0 Xn0 Xo0 Xg0
  rw [rounds_succ]
  go_wp2_with fail
  go_quiet (fail)
  go_wp2_with fail
  have Xm1 := GXm1.out
  have Xn1 := GXn1.out
  have Xo1 := GXo1.out
  have Xg1 := GXg1.out
  with_reducible refine (GP1.out _).mono ?_
  rintro e w' ⟨rfl, rfl⟩
  go_wp2_with fail
  clear Xm1 Xn1 Xo1 Xg1
  rw [rounds_succ]
  go_wp2_with fail
  go_quiet (fail)
  go_wp2_with fail
  have Xm2 := GXm2.out
  have Xn2 := GXn2.out
  have Xo2 := GXo2.out
  have Xg2 := GXg2.out
  with_reducible refine (GP3.out _).mono ?_
  rintro e w' ⟨rfl, rfl⟩
  go_wp2_with fail
  clear Xm2 Xn2 Xo2 Xg2
  rw [rounds_succ]
  go_wp2_with fail
  refine wcut_dr (w1 := w1) (by repeat (first | with_reducible exact Dr.refl _ | with_reducible refine Dr.drewN ?_ _ | with_reducible refine Dr.drew ?_)) ?_
  intro w2 hd2
  have hk2 : Kept w1 w2 := hd2.kept
  clear hd2
  refine kuse (b := w.heap.size) hk2 (by first | (simp; done) | (simp; omega) | omega) ?_
  intro ha hb
  have hz2_0 : w.heap.size < w2.heap.size := by have := hk2.size; (try simp at this); omega
  have hn2_0 : ¬ w.heap.size = w2.heap.size := by omega
  have hm2_0 : ¬ w2.heap.size = w.heap.size := by omega
  have hf2_0_0 : w2.cell? ⟨w.heap.size, 0, none⟩ = some (.int .i64 tl) := by first | (rw [ha]; with_reducible assumption) | (simp (maxDischargeDepth := 7) [go_sem, ha]; done) | (rw [ha]; assumption) | (simp (maxDischargeDepth := 7) [go_sem, ha, *]; done)
  have hf2_0_1 : w2.cell? ⟨w.heap.size, 1, none⟩ = some (.int .i64 th) := by first | (rw [ha]; with_reducible assumption) | (simp (maxDischargeDepth := 7) [go_sem, ha]; done) | (rw [ha]; assumption) | (simp (maxDischargeDepth := 7) [go_sem, ha, *]; done)
  try have hg2_0 : ∀ o, w2.frozen? ⟨w.heap.size, o, none⟩ = false := by intro o; first | (simp (maxDischargeDepth := 7) [go_sem, hb]; done) | (rw [hb]; simp (maxDischargeDepth := 7) [go_sem, *]; done)
  clear ha hb
  refine kuse (b := w.heap.size + 1) hk2 (by first | (simp; done) | (simp; omega) | omega) ?_
  intro ha hb
  have hz2_1 : w.heap.size + 1 < w2.heap.size := by have := hk2.size; (try simp at this); omega
  have hn2_1 : ¬ w.heap.size + 1 = w2.heap.size := by omega
  have hm2_1 : ¬ w2.heap.size = w.heap.size + 1 := by omega
  have hf2_1_0 : w2.cell? ⟨w.heap.size + 1, 0, none⟩ = some (.int .i64 el) := by first | (rw [ha]; with_reducible assumption) | (simp (maxDischargeDepth := 7) [go_sem, ha]; done) | (rw [ha]; assumption) | (simp (maxDischargeDepth := 7) [go_sem, ha, *]; done)
  have hf2_1_1 : w2.cell? ⟨w.heap.size + 1, 1, none⟩ = some (.int .i64 eh) := by first | (rw [ha]; with_reducible assumption) | (simp (maxDischargeDepth := 7) [go_sem, ha]; done) | (rw [ha]; assumption) | (simp (maxDischargeDepth := 7) [go_sem, ha, *]; done)
  have hf2_1_2 : w2.cell? ⟨w.heap.size + 1, 2, none⟩ = some (.int .i64 nl) := by first | (rw [ha]; with_reducible assumption) | (simp (maxDischargeDepth := 7) [go_sem, ha]; done) | (rw [ha]; assumption) | (simp (maxDischargeDepth := 7) [go_sem, ha, *]; done)
  have hf2_1_3 : w2.cell? ⟨w.heap.size + 1, 3, none⟩ = some (.int .i64 nh) := by first | (rw [ha]; with_reducible assumption) | (simp (maxDischargeDepth := 7) [go_sem, ha]; done) | (rw [ha]; assumption) | (simp (maxDischargeDepth := 7) [go_sem, ha, *]; done)
  try have hg2_1 : ∀ o, w2.frozen? ⟨w.heap.size + 1, o, none⟩ = false := by intro o; first | (simp (maxDischargeDepth := 7) [go_sem, hb]; done) | (rw [hb]; simp (maxDischargeDepth := 7) [go_sem, *]; done)
  clear ha hb
  refine kuse (b := w.heap.size + 2) hk2 (by first | (simp; done) | (simp; omega) | omega) ?_
  intro ha hb
  have hz2_2 : w.heap.size + 2 < w2.heap.size := by have := hk2.size; (try simp at this); omega
  have hn2_2 : ¬ w.heap.size + 2 = w2.heap.size := by omega
  have hm2_2 : ¬ w2.heap.size = w.heap.size + 2 := by omega
  have hf2_2_0 : w2.cell? ⟨w.heap.size + 2, 0, none⟩ = some (.int .i64 0) := by first | (rw [ha]; with_reducible assumption) | (simp (maxDischargeDepth := 7) [go_sem, ha]; done) | (rw [ha]; assumption) | (simp (maxDischargeDepth := 7) [go_sem, ha, *]; done)
  have hf2_2_1 : w2.cell? ⟨w.heap.size + 2, 1, none⟩ = some (.int .i64 0) := by first | (rw [ha]; with_reducible assumption) | (simp (maxDischargeDepth := 7) [go_sem, ha]; done) | (rw [ha]; assumption) | (simp (maxDischargeDepth := 7) [go_sem, ha, *]; done)
  try have hg2_2 : ∀ o, w2.frozen? ⟨w.heap.size + 2, o, none⟩ = false := by intro o; first | (simp (maxDischargeDepth := 7) [go_sem, hb]; done) | (rw [hb]; simp (maxDischargeDepth := 7) [go_sem, *]; done)
  clear ha hb
  try clear hf1_0_0
  try clear hf1_0_1
  try clear hf1_1_0
  try clear hf1_1_1
  try clear hf1_1_2
  try clear hf1_1_3
  try clear hf1_2_0
  try clear hf1_2_1
  try clear hg1_0
  try clear hg1_1
  try clear hg1_2
  try clear hz1_1
  try clear hz1_2
  rcases (show 0 < C ∨ (C ≤ 0 ∧ D < 0) ∨ (C ≤ 0 ∧ 0 ≤ D) by omega) with z | ⟨z, z'⟩ | ⟨z, z'⟩
  · have qz : m0 = x0 := by rw [← qy, ← qm]; unfold gx0; rw [if_pos (by omega), qI, qJ]; rfl
    rw [qz] at b2
    clear qy qx qx' qI qJ qm
    with_reducible refine (A1.out _).mono ?_
    rintro e w' ⟨rfl, rfl⟩
    go_wp2_with fail
    with_reducible refine (A2.out _).mono ?_
    rintro e w' ⟨rfl, rfl⟩
    go_wp2_with fail
    with_reducible refine (A1.out _).mono ?_
    rintro e w' ⟨rfl, rfl⟩
    go_wp2_with fail
    with_reducible refine (A2.out _).mono ?_
    rintro e w' ⟨rfl, rfl⟩
    go_wp2_with fail
    go_quiet (fail)
    by_cases kk : u ≤ x1
    · obtain ⟨y1, y2, y3⟩ := GE2.out (by omega)
      subst y1 y2 y3
      clear GE2 GE3 GE0
      clear A1 A2 GP0 GP1 GP2 GP3 GXm0 GXn0 GXm1 GXn1 GXm2 GXn2 GXo0 GXg0 GXo1 GXg1 GXo2 GXg2
      try clear e0
      try clear e1
      try clear e2
      try clear e3
      try clear e4
      try clear n0
      try clear n1
      try clear n2
      try clear n3
      try clear n4
      try clear a0
      try clear a1
      try clear a2
      try clear d0
      try clear d1
      try clear d2
      try clear i0
      try clear i1
      try clear X0
      try clear uu
      try clear b1
      try clear b2
      try clear qz
      try clear t0
      try clear t1
      try clear t2
      try clear z
      try clear z'
      go_upto_region 21 with (fail)
      repeat (first | go_values | go_skip | go_guarded | go_step | go_upon)
      all_goals exact bodyPost_ret (v := .tuple #[.agg #[.int .i64 0, .int .i64 0], .int .i64 10]) (by first | (simp [results, Tryz.results24, go_sem]; done) | (simp (maxDischargeDepth := 7) [results, Tryz.results24, go_sem, *]; done)) rfl ⟨rfl, (by repeat (first | with_reducible exact Kept.refl _ | with_reducible assumption | with_reducible refine Kept.setCell ?_ (by first | (simp; done) | (simp; omega) | omega) _ | with_reducible refine Kept.alloc ?_ _ | with_reducible refine Kept.drewN ?_ _ | with_reducible refine Kept.drew ?_ | with_reducible refine Kept.trans ?_ (by with_reducible assumption) | with_reducible refine Kept.dr ?_ (by with_reducible assumption)))⟩
    · clear A1 A2 GP0 GP1 GP2 GP3 GXm0 GXn0 GXm1 GXn1 GXm2 GXn2 GXo0 GXg0 GXo1 GXg1 GXo2 GXg2
      obtain ⟨r0, r1, r2, r3, r4, r5⟩ := rtU_bd tl x1 t0 (by omega) (by omega) (by omega)
      obtain ⟨s0, s1, s2, s3, s4, s5⟩ := rtU_bd th x0 (by omega) t1 (by omega) (by omega)
      rw [qu] at r2 r3 r5
      rw [qv] at s2 s3 s5
      have mono := rtU_mono (t := tl) (u := th) (x := x1) (z := x0) t0 t2 t1 X0.1 X0.2 (by omega)
      have S1 := Lib.hid (ref_sqrt_w (u * u - x1 * x1) (by omega) (by omega))
      have S2 := Lib.hid (ref_sqrt_w (v * v - x0 * x0) (by omega) (by omega))
      rw [show isq (u * u - x1 * x1) = rtU tl x1 by unfold rtU; rw [qu]] at S1
      rw [show isq (v * v - x0 * x0) = rtU th x0 by unfold rtU; rw [qv]] at S2
      have w1 : IntKind.i64.wrap (u * u) = u * u := IntWalk.i64_in _ (by omega)
      have w2 : IntKind.i64.wrap (x1 * x1) = x1 * x1 := IntWalk.i64_in _ (by omega)
      have w3 : IntKind.i64.wrap (u * u - x1 * x1) = u * u - x1 * x1 := IntWalk.i64_in _ (by omega)
      have w4 : IntKind.i64.wrap (v * v) = v * v := IntWalk.i64_in _ (by omega)
      have w5 : IntKind.i64.wrap (x0 * x0) = x0 * x0 := IntWalk.i64_in _ (by omega)
      have w6 : IntKind.i64.wrap (v * v - x0 * x0) = v * v - x0 * x0 := IntWalk.i64_in _ (by omega)
      obtain ⟨R, qR⟩ : ∃ r, rtU tl x1 = r := ⟨_, rfl⟩
      obtain ⟨S, qS⟩ : ∃ r, rtU th x0 = r := ⟨_, rfl⟩
      rw [qR] at S1 r0 r1
      rw [qS] at S2 s0 s1
      rw [qR, qS] at mono
      have w7 : IntKind.i64.wrap (A + R) = A + R := IntWalk.i64_in _ (by omega)
      have w8 : IntKind.i64.wrap (B + S) = B + S := IntWalk.i64_in _ (by omega)
      rw [qR] at GE3
      rw [qR, qS] at GE0
      clear qR qS
      go_wp2_with fail
      with_reducible refine (S1.out _).mono ?_
      rintro e w' ⟨rfl, rfl⟩
      go_wp2_with fail
      with_reducible refine (S2.out _).mono ?_
      rintro e w' ⟨rfl, rfl⟩
      by_cases ll : A + R < 1024
      · obtain ⟨y1, y2, y3⟩ := GE3.out (by omega) (by omega)
        subst y1 y2 y3
        clear GE2 GE3 GE0
        try clear e0
        try clear e1
        try clear e2
        try clear e3
        try clear e4
        try clear n0
        try clear n1
        try clear n2
        try clear n3
        try clear n4
        try clear a0
        try clear a1
        try clear a2
        try clear d0
        try clear d1
        try clear d2
        try clear i0
        try clear i1
        try clear X0
        try clear uu
        try clear b1
        try clear b2
        try clear qz
        try clear t0
        try clear t1
        try clear t2
        try clear z
        try clear z'
        try clear r0
        try clear r1
        try clear r2
        try clear r3
        try clear r4
        try clear r5
        try clear s0
        try clear s1
        try clear s2
        try clear s3
        try clear s4
        try clear s5
        try clear mono
        try clear S1
        try clear S2
        go_upto_region 24 with (fail)
        repeat (first | go_values | go_skip | go_guarded | go_step | go_upon)
        all_goals exact bodyPost_ret (v := .tuple #[.agg #[.int .i64 0, .int .i64 0], .int .i64 10]) (by first | (simp [results, Tryz.results24, go_sem]; done) | (simp (maxDischargeDepth := 7) [results, Tryz.results24, go_sem, *]; done)) rfl ⟨rfl, (by repeat (first | with_reducible exact Kept.refl _ | with_reducible assumption | with_reducible refine Kept.setCell ?_ (by first | (simp; done) | (simp; omega) | omega) _ | with_reducible refine Kept.alloc ?_ _ | with_reducible refine Kept.drewN ?_ _ | with_reducible refine Kept.drew ?_ | with_reducible refine Kept.trans ?_ (by with_reducible assumption) | with_reducible refine Kept.dr ?_ (by with_reducible assumption)))⟩
      · obtain ⟨y1, y2, y3⟩ := GE0.out (by omega) (by omega)
        clear GE2 GE3 GE0
        have w9 : IntKind.i64.wrap (B + S + 1024) = B + S + 1024 := IntWalk.i64_in _ (by omega)
        have wa : IntKind.i64.wrap (B + S + 1024 - 1) = B + S + 1023 := by rw [show B + S + 1024 - 1 = B + S + 1023 by omega]; exact IntWalk.i64_in _ (by omega)
        have td1 : (A + R).tdiv 1024 = (A + R) / 1024 := Int.tdiv_eq_ediv_of_nonneg (by omega)
        have td2 : (B + S + 1023).tdiv 1024 = (B + S + 1023) / 1024 := Int.tdiv_eq_ediv_of_nonneg (by omega)
        rw [← y2] at td1
        rw [← y3] at td2
        have p0 : 0 ≤ v1 ∧ v1 ≤ 100000 := by omega
        have r9 : 0 ≤ v2 ∧ v2 ≤ 100000 := by omega
        subst y1
        clear y2 y3
        try clear e0
        try clear e1
        try clear e2
        try clear e3
        try clear e4
        try clear n0
        try clear n1
        try clear n2
        try clear n3
        try clear n4
        try clear a0
        try clear a1
        try clear a2
        try clear d0
        try clear d1
        try clear d2
        try clear i0
        try clear i1
        try clear X0
        try clear uu
        try clear b1
        try clear b2
        try clear qz
        try clear t0
        try clear t1
        try clear t2
        try clear z
        try clear z'
        try clear r0
        try clear r1
        try clear r2
        try clear r3
        try clear r4
        try clear r5
        try clear s0
        try clear s1
        try clear s2
        try clear s3
        try clear s4
        try clear s5
        try clear mono
        try clear S1
        try clear S2
        go_upto_region 25 with (fail)
        repeat (first | go_values | go_skip | go_guarded | go_step | go_upon)
        all_goals exact bodyPost_ret (v := .tuple #[.agg #[.int .i64 v1, .int .i64 v2], .int .i64 0]) (by first | (simp [results, Tryz.results24, go_sem]; done) | (simp (maxDischargeDepth := 7) [results, Tryz.results24, go_sem, *]; done)) rfl ⟨rfl, (by repeat (first | with_reducible exact Kept.refl _ | with_reducible assumption | with_reducible refine Kept.setCell ?_ (by first | (simp; done) | (simp; omega) | omega) _ | with_reducible refine Kept.alloc ?_ _ | with_reducible refine Kept.drewN ?_ _ | with_reducible refine Kept.drew ?_ | with_reducible refine Kept.trans ?_ (by with_reducible assumption) | with_reducible refine Kept.dr ?_ (by with_reducible assumption)))⟩
  · have qz : m0 = x0 := by rw [← qy, ← qm]; unfold gx0; rw [if_pos (by omega), qI, qJ]; rfl
    rw [qz] at b2
    clear qy qx qx' qI qJ qm
    with_reducible refine (A1.out _).mono ?_
    rintro e w' ⟨rfl, rfl⟩
    go_wp2_with fail
    with_reducible refine (A2.out _).mono ?_
    rintro e w' ⟨rfl, rfl⟩
    go_wp2_with fail
    with_reducible refine (A1.out _).mono ?_
    rintro e w' ⟨rfl, rfl⟩
    go_wp2_with fail
    with_reducible refine (A2.out _).mono ?_
    rintro e w' ⟨rfl, rfl⟩
    go_wp2_with fail
    go_quiet (fail)
    by_cases kk : u ≤ x1
    · obtain ⟨y1, y2, y3⟩ := GE2.out (by omega)
      subst y1 y2 y3
      clear GE2 GE3 GE0
      clear A1 A2 GP0 GP1 GP2 GP3 GXm0 GXn0 GXm1 GXn1 GXm2 GXn2 GXo0 GXg0 GXo1 GXg1 GXo2 GXg2
      try clear e0
      try clear e1
      try clear e2
      try clear e3
      try clear e4
      try clear n0
      try clear n1
      try clear n2
      try clear n3
      try clear n4
      try clear a0
      try clear a1
      try clear a2
      try clear d0
      try clear d1
      try clear d2
      try clear i0
      try clear i1
      try clear X0
      try clear uu
      try clear b1
      try clear b2
      try clear qz
      try clear t0
      try clear t1
      try clear t2
      try clear z
      try clear z'
      go_upto_region 21 with (fail)
      repeat (first | go_values | go_skip | go_guarded | go_step | go_upon)
      all_goals exact bodyPost_ret (v := .tuple #[.agg #[.int .i64 0, .int .i64 0], .int .i64 10]) (by first | (simp [results, Tryz.results24, go_sem]; done) | (simp (maxDischargeDepth := 7) [results, Tryz.results24, go_sem, *]; done)) rfl ⟨rfl, (by repeat (first | with_reducible exact Kept.refl _ | with_reducible assumption | with_reducible refine Kept.setCell ?_ (by first | (simp; done) | (simp; omega) | omega) _ | with_reducible refine Kept.alloc ?_ _ | with_reducible refine Kept.drewN ?_ _ | with_reducible refine Kept.drew ?_ | with_reducible refine Kept.trans ?_ (by with_reducible assumption) | with_reducible refine Kept.dr ?_ (by with_reducible assumption)))⟩
    · clear A1 A2 GP0 GP1 GP2 GP3 GXm0 GXn0 GXm1 GXn1 GXm2 GXn2 GXo0 GXg0 GXo1 GXg1 GXo2 GXg2
      obtain ⟨r0, r1, r2, r3, r4, r5⟩ := rtU_bd tl x1 t0 (by omega) (by omega) (by omega)
      obtain ⟨s0, s1, s2, s3, s4, s5⟩ := rtU_bd th x0 (by omega) t1 (by omega) (by omega)
      rw [qu] at r2 r3 r5
      rw [qv] at s2 s3 s5
      have mono := rtU_mono (t := tl) (u := th) (x := x1) (z := x0) t0 t2 t1 X0.1 X0.2 (by omega)
      have S1 := Lib.hid (ref_sqrt_w (u * u - x1 * x1) (by omega) (by omega))
      have S2 := Lib.hid (ref_sqrt_w (v * v - x0 * x0) (by omega) (by omega))
      rw [show isq (u * u - x1 * x1) = rtU tl x1 by unfold rtU; rw [qu]] at S1
      rw [show isq (v * v - x0 * x0) = rtU th x0 by unfold rtU; rw [qv]] at S2
      have w1 : IntKind.i64.wrap (u * u) = u * u := IntWalk.i64_in _ (by omega)
      have w2 : IntKind.i64.wrap (x1 * x1) = x1 * x1 := IntWalk.i64_in _ (by omega)
      have w3 : IntKind.i64.wrap (u * u - x1 * x1) = u * u - x1 * x1 := IntWalk.i64_in _ (by omega)
      have w4 : IntKind.i64.wrap (v * v) = v * v := IntWalk.i64_in _ (by omega)
      have w5 : IntKind.i64.wrap (x0 * x0) = x0 * x0 := IntWalk.i64_in _ (by omega)
      have w6 : IntKind.i64.wrap (v * v - x0 * x0) = v * v - x0 * x0 := IntWalk.i64_in _ (by omega)
      obtain ⟨R, qR⟩ : ∃ r, rtU tl x1 = r := ⟨_, rfl⟩
      obtain ⟨S, qS⟩ : ∃ r, rtU th x0 = r := ⟨_, rfl⟩
      rw [qR] at S1 r0 r1
      rw [qS] at S2 s0 s1
      rw [qR, qS] at mono
      have w7 : IntKind.i64.wrap (A + R) = A + R := IntWalk.i64_in _ (by omega)
      have w8 : IntKind.i64.wrap (B + S) = B + S := IntWalk.i64_in _ (by omega)
      rw [qR] at GE3
      rw [qR, qS] at GE0
      clear qR qS
      go_wp2_with fail
      with_reducible refine (S1.out _).mono ?_
      rintro e w' ⟨rfl, rfl⟩
      go_wp2_with fail
      with_reducible refine (S2.out _).mono ?_
      rintro e w' ⟨rfl, rfl⟩
      by_cases ll : A + R < 1024
      · obtain ⟨y1, y2, y3⟩ := GE3.out (by omega) (by omega)
        subst y1 y2 y3
        clear GE2 GE3 GE0
        try clear e0
        try clear e1
        try clear e2
        try clear e3
        try clear e4
        try clear n0
        try clear n1
        try clear n2
        try clear n3
        try clear n4
        try clear a0
        try clear a1
        try clear a2
        try clear d0
        try clear d1
        try clear d2
        try clear i0
        try clear i1
        try clear X0
        try clear uu
        try clear b1
        try clear b2
        try clear qz
        try clear t0
        try clear t1
        try clear t2
        try clear z
        try clear z'
        try clear r0
        try clear r1
        try clear r2
        try clear r3
        try clear r4
        try clear r5
        try clear s0
        try clear s1
        try clear s2
        try clear s3
        try clear s4
        try clear s5
        try clear mono
        try clear S1
        try clear S2
        go_upto_region 24 with (fail)
        repeat (first | go_values | go_skip | go_guarded | go_step | go_upon)
        all_goals exact bodyPost_ret (v := .tuple #[.agg #[.int .i64 0, .int .i64 0], .int .i64 10]) (by first | (simp [results, Tryz.results24, go_sem]; done) | (simp (maxDischargeDepth := 7) [results, Tryz.results24, go_sem, *]; done)) rfl ⟨rfl, (by repeat (first | with_reducible exact Kept.refl _ | with_reducible assumption | with_reducible refine Kept.setCell ?_ (by first | (simp; done) | (simp; omega) | omega) _ | with_reducible refine Kept.alloc ?_ _ | with_reducible refine Kept.drewN ?_ _ | with_reducible refine Kept.drew ?_ | with_reducible refine Kept.trans ?_ (by with_reducible assumption) | with_reducible refine Kept.dr ?_ (by with_reducible assumption)))⟩
      · obtain ⟨y1, y2, y3⟩ := GE0.out (by omega) (by omega)
        clear GE2 GE3 GE0
        have w9 : IntKind.i64.wrap (B + S + 1024) = B + S + 1024 := IntWalk.i64_in _ (by omega)
        have wa : IntKind.i64.wrap (B + S + 1024 - 1) = B + S + 1023 := by rw [show B + S + 1024 - 1 = B + S + 1023 by omega]; exact IntWalk.i64_in _ (by omega)
        have td1 : (A + R).tdiv 1024 = (A + R) / 1024 := Int.tdiv_eq_ediv_of_nonneg (by omega)
        have td2 : (B + S + 1023).tdiv 1024 = (B + S + 1023) / 1024 := Int.tdiv_eq_ediv_of_nonneg (by omega)
        rw [← y2] at td1
        rw [← y3] at td2
        have p0 : 0 ≤ v1 ∧ v1 ≤ 100000 := by omega
        have r9 : 0 ≤ v2 ∧ v2 ≤ 100000 := by omega
        subst y1
        clear y2 y3
        try clear e0
        try clear e1
        try clear e2
        try clear e3
        try clear e4
        try clear n0
        try clear n1
        try clear n2
        try clear n3
        try clear n4
        try clear a0
        try clear a1
        try clear a2
        try clear d0
        try clear d1
        try clear d2
        try clear i0
        try clear i1
        try clear X0
        try clear uu
        try clear b1
        try clear b2
        try clear qz
        try clear t0
        try clear t1
        try clear t2
        try clear z
        try clear z'
        try clear r0
        try clear r1
        try clear r2
        try clear r3
        try clear r4
        try clear r5
        try clear s0
        try clear s1
        try clear s2
        try clear s3
        try clear s4
        try clear s5
        try clear mono
        try clear S1
        try clear S2
        go_upto_region 25 with (fail)
        repeat (first | go_values | go_skip | go_guarded | go_step | go_upon)
        all_goals exact bodyPost_ret (v := .tuple #[.agg #[.int .i64 v1, .int .i64 v2], .int .i64 0]) (by first | (simp [results, Tryz.results24, go_sem]; done) | (simp (maxDischargeDepth := 7) [results, Tryz.results24, go_sem, *]; done)) rfl ⟨rfl, (by repeat (first | with_reducible exact Kept.refl _ | with_reducible assumption | with_reducible refine Kept.setCell ?_ (by first | (simp; done) | (simp; omega) | omega) _ | with_reducible refine Kept.alloc ?_ _ | with_reducible refine Kept.drewN ?_ _ | with_reducible refine Kept.drew ?_ | with_reducible refine Kept.trans ?_ (by with_reducible assumption) | with_reducible refine Kept.dr ?_ (by with_reducible assumption)))⟩
  · have qz : x0 = 0 := by rw [← qy]; unfold gx0; rw [if_neg (by omega)]
    clear qy qx qx' qI qJ qm
    with_reducible refine (A1.out _).mono ?_
    rintro e w' ⟨rfl, rfl⟩
    go_wp2_with fail
    with_reducible refine (A2.out _).mono ?_
    rintro e w' ⟨rfl, rfl⟩
    go_wp2_with fail
    with_reducible refine (A1.out _).mono ?_
    rintro e w' ⟨rfl, rfl⟩
    go_wp2_with fail
    with_reducible refine (A2.out _).mono ?_
    rintro e w' ⟨rfl, rfl⟩
    go_wp2_with fail
    go_quiet (fail)
    by_cases kk : u ≤ x1
    · obtain ⟨y1, y2, y3⟩ := GE2.out (by omega)
      subst y1 y2 y3
      clear GE2 GE3 GE0
      clear A1 A2 GP0 GP1 GP2 GP3 GXm0 GXn0 GXm1 GXn1 GXm2 GXn2 GXo0 GXg0 GXo1 GXg1 GXo2 GXg2
      try clear e0
      try clear e1
      try clear e2
      try clear e3
      try clear e4
      try clear n0
      try clear n1
      try clear n2
      try clear n3
      try clear n4
      try clear a0
      try clear a1
      try clear a2
      try clear d0
      try clear d1
      try clear d2
      try clear i0
      try clear i1
      try clear X0
      try clear uu
      try clear b1
      try clear b2
      try clear qz
      try clear t0
      try clear t1
      try clear t2
      try clear z
      try clear z'
      go_upto_region 21 with (fail)
      repeat (first | go_values | go_skip | go_guarded | go_step | go_upon)
      all_goals exact bodyPost_ret (v := .tuple #[.agg #[.int .i64 0, .int .i64 0], .int .i64 10]) (by first | (simp [results, Tryz.results24, go_sem]; done) | (simp (maxDischargeDepth := 7) [results, Tryz.results24, go_sem, *]; done)) rfl ⟨rfl, (by repeat (first | with_reducible exact Kept.refl _ | with_reducible assumption | with_reducible refine Kept.setCell ?_ (by first | (simp; done) | (simp; omega) | omega) _ | with_reducible refine Kept.alloc ?_ _ | with_reducible refine Kept.drewN ?_ _ | with_reducible refine Kept.drew ?_ | with_reducible refine Kept.trans ?_ (by with_reducible assumption) | with_reducible refine Kept.dr ?_ (by with_reducible assumption)))⟩
    · clear A1 A2 GP0 GP1 GP2 GP3 GXm0 GXn0 GXm1 GXn1 GXm2 GXn2 GXo0 GXg0 GXo1 GXg1 GXo2 GXg2
      obtain ⟨r0, r1, r2, r3, r4, r5⟩ := rtU_bd tl x1 t0 (by omega) (by omega) (by omega)
      obtain ⟨s0, s1, s2, s3, s4, s5⟩ := rtU_bd th x0 (by omega) t1 (by omega) (by omega)
      rw [qu] at r2 r3 r5
      rw [qv] at s2 s3 s5
      have mono := rtU_mono (t := tl) (u := th) (x := x1) (z := x0) t0 t2 t1 X0.1 X0.2 (by omega)
      have S1 := Lib.hid (ref_sqrt_w (u * u - x1 * x1) (by omega) (by omega))
      have S2 := Lib.hid (ref_sqrt_w (v * v - x0 * x0) (by omega) (by omega))
      rw [show isq (u * u - x1 * x1) = rtU tl x1 by unfold rtU; rw [qu]] at S1
      rw [show isq (v * v - x0 * x0) = rtU th x0 by unfold rtU; rw [qv]] at S2
      have w1 : IntKind.i64.wrap (u * u) = u * u := IntWalk.i64_in _ (by omega)
      have w2 : IntKind.i64.wrap (x1 * x1) = x1 * x1 := IntWalk.i64_in _ (by omega)
      have w3 : IntKind.i64.wrap (u * u - x1 * x1) = u * u - x1 * x1 := IntWalk.i64_in _ (by omega)
      have w4 : IntKind.i64.wrap (v * v) = v * v := IntWalk.i64_in _ (by omega)
      have w5 : IntKind.i64.wrap (x0 * x0) = x0 * x0 := IntWalk.i64_in _ (by omega)
      have w6 : IntKind.i64.wrap (v * v - x0 * x0) = v * v - x0 * x0 := IntWalk.i64_in _ (by omega)
      obtain ⟨R, qR⟩ : ∃ r, rtU tl x1 = r := ⟨_, rfl⟩
      obtain ⟨S, qS⟩ : ∃ r, rtU th x0 = r := ⟨_, rfl⟩
      rw [qR] at S1 r0 r1
      rw [qS] at S2 s0 s1
      rw [qR, qS] at mono
      have w7 : IntKind.i64.wrap (A + R) = A + R := IntWalk.i64_in _ (by omega)
      have w8 : IntKind.i64.wrap (B + S) = B + S := IntWalk.i64_in _ (by omega)
      rw [qR] at GE3
      rw [qR, qS] at GE0
      clear qR qS
      rw [qz, show v * v - 0 * 0 = v * v by omega] at S2
      have wz0 : IntKind.i64.wrap 0 = 0 := by decide
      have wz1 : IntKind.i64.wrap (v * v - 0) = v * v := by rw [show v * v - 0 = v * v by omega]; exact w4
      go_wp2_with fail
      with_reducible refine (S1.out _).mono ?_
      rintro e w' ⟨rfl, rfl⟩
      go_wp2_with fail
      with_reducible refine (S2.out _).mono ?_
      rintro e w' ⟨rfl, rfl⟩
      by_cases ll : A + R < 1024
      · obtain ⟨y1, y2, y3⟩ := GE3.out (by omega) (by omega)
        subst y1 y2 y3
        clear GE2 GE3 GE0
        try clear e0
        try clear e1
        try clear e2
        try clear e3
        try clear e4
        try clear n0
        try clear n1
        try clear n2
        try clear n3
        try clear n4
        try clear a0
        try clear a1
        try clear a2
        try clear d0
        try clear d1
        try clear d2
        try clear i0
        try clear i1
        try clear X0
        try clear uu
        try clear b1
        try clear b2
        try clear qz
        try clear t0
        try clear t1
        try clear t2
        try clear z
        try clear z'
        try clear r0
        try clear r1
        try clear r2
        try clear r3
        try clear r4
        try clear r5
        try clear s0
        try clear s1
        try clear s2
        try clear s3
        try clear s4
        try clear s5
        try clear mono
        try clear S1
        try clear S2
        go_upto_region 24 with (fail)
        repeat (first | go_values | go_skip | go_guarded | go_step | go_upon)
        all_goals exact bodyPost_ret (v := .tuple #[.agg #[.int .i64 0, .int .i64 0], .int .i64 10]) (by first | (simp [results, Tryz.results24, go_sem]; done) | (simp (maxDischargeDepth := 7) [results, Tryz.results24, go_sem, *]; done)) rfl ⟨rfl, (by repeat (first | with_reducible exact Kept.refl _ | with_reducible assumption | with_reducible refine Kept.setCell ?_ (by first | (simp; done) | (simp; omega) | omega) _ | with_reducible refine Kept.alloc ?_ _ | with_reducible refine Kept.drewN ?_ _ | with_reducible refine Kept.drew ?_ | with_reducible refine Kept.trans ?_ (by with_reducible assumption) | with_reducible refine Kept.dr ?_ (by with_reducible assumption)))⟩
      · obtain ⟨y1, y2, y3⟩ := GE0.out (by omega) (by omega)
        clear GE2 GE3 GE0
        have w9 : IntKind.i64.wrap (B + S + 1024) = B + S + 1024 := IntWalk.i64_in _ (by omega)
        have wa : IntKind.i64.wrap (B + S + 1024 - 1) = B + S + 1023 := by rw [show B + S + 1024 - 1 = B + S + 1023 by omega]; exact IntWalk.i64_in _ (by omega)
        have td1 : (A + R).tdiv 1024 = (A + R) / 1024 := Int.tdiv_eq_ediv_of_nonneg (by omega)
        have td2 : (B + S + 1023).tdiv 1024 = (B + S + 1023) / 1024 := Int.tdiv_eq_ediv_of_nonneg (by omega)
        rw [← y2] at td1
        rw [← y3] at td2
        have p0 : 0 ≤ v1 ∧ v1 ≤ 100000 := by omega
        have r9 : 0 ≤ v2 ∧ v2 ≤ 100000 := by omega
        subst y1
        clear y2 y3
        try clear e0
        try clear e1
        try clear e2
        try clear e3
        try clear e4
        try clear n0
        try clear n1
        try clear n2
        try clear n3
        try clear n4
        try clear a0
        try clear a1
        try clear a2
        try clear d0
        try clear d1
        try clear d2
        try clear i0
        try clear i1
        try clear X0
        try clear uu
        try clear b1
        try clear b2
        try clear qz
        try clear t0
        try clear t1
        try clear t2
        try clear z
        try clear z'
        try clear r0
        try clear r1
        try clear r2
        try clear r3
        try clear r4
        try clear r5
        try clear s0
        try clear s1
        try clear s2
        try clear s3
        try clear s4
        try clear s5
        try clear mono
        try clear S1
        try clear S2
        go_upto_region 25 with (fail)
        repeat (first | go_values | go_skip | go_guarded | go_step | go_upon)
        all_goals exact bodyPost_ret (v := .tuple #[.agg #[.int .i64 v1, .int .i64 v2], .int .i64 0]) (by first | (simp [results, Tryz.results24, go_sem]; done) | (simp (maxDischargeDepth := 7) [results, Tryz.results24, go_sem, *]; done)) rfl ⟨rfl, (by repeat (first | with_reducible exact Kept.refl _ | with_reducible assumption | with_reducible refine Kept.setCell ?_ (by first | (simp; done) | (simp; omega) | omega) _ | with_reducible refine Kept.alloc ?_ _ | with_reducible refine Kept.drewN ?_ _ | with_reducible refine Kept.drew ?_ | with_reducible refine Kept.trans ?_ (by with_reducible assumption) | with_reducible refine Kept.dr ?_ (by with_reducible assumption)))⟩
set_option maxHeartbeats 2000000 in
set_option maxRecDepth 100000 in
theorem ref_gi_arg (c tl th el eh nl nh : Int) (c_0 : -9223372036854775808 ≤ c) (c_1 : c ≤ 9223372036854775807) (tl_0 : -9223372036854775808 ≤ tl) (tl_1 : tl ≤ 9223372036854775807) (th_0 : -9223372036854775808 ≤ th) (th_1 : th ≤ 9223372036854775807) (h : bxB el eh nl nh = false) (w : World) : Calls Tryz.prog 24 #[.int .i64 c, .agg #[.int .i64 tl, .int .i64 th], .agg #[.int .i64 el, .int .i64 eh, .int .i64 nl, .int .i64 nh]] w fun e w' => e = .returned (.tuple #[.agg #[.int .i64 0, .int .i64 0], .int .i64 1]) ∧ Kept w w' := by
  have HB := fun W => ref_wbox_w el eh nl nh W
  rw [h] at HB
  go_enter Tryz.func24, Tryz.ntmps24
  go_wp2_with fail
  with_reducible refine (HB _).mono ?_
  rintro e w1 ⟨rfl, hk1⟩
  refine kuse (b := w.heap.size) hk1 (by first | (simp; done) | (simp; omega) | omega) ?_
  intro ha hb
  have hz1_0 : w.heap.size < w1.heap.size := by have := hk1.size; (try simp at this); omega
  have hn1_0 : ¬ w.heap.size = w1.heap.size := by omega
  have hm1_0 : ¬ w1.heap.size = w.heap.size := by omega
  have hf1_0_0 : w1.cell? ⟨w.heap.size, 0, none⟩ = some (.int .i64 tl) := by first | (rw [ha]; with_reducible assumption) | (simp (maxDischargeDepth := 7) [go_sem, ha]; done) | (rw [ha]; assumption) | (simp (maxDischargeDepth := 7) [go_sem, ha, *]; done)
  have hf1_0_1 : w1.cell? ⟨w.heap.size, 1, none⟩ = some (.int .i64 th) := by first | (rw [ha]; with_reducible assumption) | (simp (maxDischargeDepth := 7) [go_sem, ha]; done) | (rw [ha]; assumption) | (simp (maxDischargeDepth := 7) [go_sem, ha, *]; done)
  try have hg1_0 : ∀ o, w1.frozen? ⟨w.heap.size, o, none⟩ = false := by intro o; first | (simp (maxDischargeDepth := 7) [go_sem, hb]; done) | (rw [hb]; simp (maxDischargeDepth := 7) [go_sem, *]; done)
  clear ha hb
  refine kuse (b := w.heap.size + 1) hk1 (by first | (simp; done) | (simp; omega) | omega) ?_
  intro ha hb
  have hz1_1 : w.heap.size + 1 < w1.heap.size := by have := hk1.size; (try simp at this); omega
  have hn1_1 : ¬ w.heap.size + 1 = w1.heap.size := by omega
  have hm1_1 : ¬ w1.heap.size = w.heap.size + 1 := by omega
  have hf1_1_0 : w1.cell? ⟨w.heap.size + 1, 0, none⟩ = some (.int .i64 el) := by first | (rw [ha]; with_reducible assumption) | (simp (maxDischargeDepth := 7) [go_sem, ha]; done) | (rw [ha]; assumption) | (simp (maxDischargeDepth := 7) [go_sem, ha, *]; done)
  have hf1_1_1 : w1.cell? ⟨w.heap.size + 1, 1, none⟩ = some (.int .i64 eh) := by first | (rw [ha]; with_reducible assumption) | (simp (maxDischargeDepth := 7) [go_sem, ha]; done) | (rw [ha]; assumption) | (simp (maxDischargeDepth := 7) [go_sem, ha, *]; done)
  have hf1_1_2 : w1.cell? ⟨w.heap.size + 1, 2, none⟩ = some (.int .i64 nl) := by first | (rw [ha]; with_reducible assumption) | (simp (maxDischargeDepth := 7) [go_sem, ha]; done) | (rw [ha]; assumption) | (simp (maxDischargeDepth := 7) [go_sem, ha, *]; done)
  have hf1_1_3 : w1.cell? ⟨w.heap.size + 1, 3, none⟩ = some (.int .i64 nh) := by first | (rw [ha]; with_reducible assumption) | (simp (maxDischargeDepth := 7) [go_sem, ha]; done) | (rw [ha]; assumption) | (simp (maxDischargeDepth := 7) [go_sem, ha, *]; done)
  try have hg1_1 : ∀ o, w1.frozen? ⟨w.heap.size + 1, o, none⟩ = false := by intro o; first | (simp (maxDischargeDepth := 7) [go_sem, hb]; done) | (rw [hb]; simp (maxDischargeDepth := 7) [go_sem, *]; done)
  clear ha hb
  refine kuse (b := w.heap.size + 2) hk1 (by first | (simp; done) | (simp; omega) | omega) ?_
  intro ha hb
  have hz1_2 : w.heap.size + 2 < w1.heap.size := by have := hk1.size; (try simp at this); omega
  have hn1_2 : ¬ w.heap.size + 2 = w1.heap.size := by omega
  have hm1_2 : ¬ w1.heap.size = w.heap.size + 2 := by omega
  have hf1_2_0 : w1.cell? ⟨w.heap.size + 2, 0, none⟩ = some (.int .i64 0) := by first | (rw [ha]; with_reducible assumption) | (simp (maxDischargeDepth := 7) [go_sem, ha]; done) | (rw [ha]; assumption) | (simp (maxDischargeDepth := 7) [go_sem, ha, *]; done)
  have hf1_2_1 : w1.cell? ⟨w.heap.size + 2, 1, none⟩ = some (.int .i64 0) := by first | (rw [ha]; with_reducible assumption) | (simp (maxDischargeDepth := 7) [go_sem, ha]; done) | (rw [ha]; assumption) | (simp (maxDischargeDepth := 7) [go_sem, ha, *]; done)
  try have hg1_2 : ∀ o, w1.frozen? ⟨w.heap.size + 2, o, none⟩ = false := by intro o; first | (simp (maxDischargeDepth := 7) [go_sem, hb]; done) | (rw [hb]; simp (maxDischargeDepth := 7) [go_sem, *]; done)
  clear ha hb
  go_wp2_with fail
  all_goals exact bodyPost_ret (v := .tuple #[.agg #[.int .i64 0, .int .i64 0], .int .i64 1]) (by first | (simp [results, Tryz.results24, go_sem]; done) | (simp (maxDischargeDepth := 7) [results, Tryz.results24, go_sem, *]; done)) rfl ⟨rfl, (by repeat (first | with_reducible exact Kept.refl _ | with_reducible assumption | with_reducible refine Kept.setCell ?_ (by first | (simp; done) | (simp; omega) | omega) _ | with_reducible refine Kept.alloc ?_ _ | with_reducible refine Kept.drewN ?_ _ | with_reducible refine Kept.drew ?_ | with_reducible refine Kept.trans ?_ (by with_reducible assumption) | with_reducible refine Kept.dr ?_ (by with_reducible assumption)))⟩
set_option maxHeartbeats 2000000 in
set_option maxRecDepth 100000 in
theorem ref_gi_tas (c tl th el eh nl nh : Int) (c_0 : -9223372036854775808 ≤ c) (c_1 : c ≤ 9223372036854775807) (tl_0 : -9223372036854775808 ≤ tl) (tl_1 : tl ≤ 9223372036854775807) (th_0 : -9223372036854775808 ≤ th) (th_1 : th ≤ 9223372036854775807) (hb : bxB el eh nl nh = true) (h : tl < 1 ∨ 4000 < th ∨ th < tl) (w : World) : Calls Tryz.prog 24 #[.int .i64 c, .agg #[.int .i64 tl, .int .i64 th], .agg #[.int .i64 el, .int .i64 eh, .int .i64 nl, .int .i64 nh]] w fun e w' => e = .returned (.tuple #[.agg #[.int .i64 0, .int .i64 0], .int .i64 1]) ∧ Kept w w' := by
  rcases (show tl < 1 ∨ (1 ≤ tl ∧ 4000 < th) ∨ (1 ≤ tl ∧ th ≤ 4000 ∧ th < tl) by omega) with h | ⟨_, h⟩ | ⟨_, _, h⟩
  all_goals
    have HB := fun W => ref_wbox_w el eh nl nh W
    rw [hb] at HB
    go_enter Tryz.func24, Tryz.ntmps24
    go_wp2_with fail
    with_reducible refine (HB _).mono ?_
    rintro e w1 ⟨rfl, hk1⟩
    refine kuse (b := w.heap.size) hk1 (by first | (simp; done) | (simp; omega) | omega) ?_
    intro ha hb
    have hz1_0 : w.heap.size < w1.heap.size := by have := hk1.size; (try simp at this); omega
    have hn1_0 : ¬ w.heap.size = w1.heap.size := by omega
    have hm1_0 : ¬ w1.heap.size = w.heap.size := by omega
    have hf1_0_0 : w1.cell? ⟨w.heap.size, 0, none⟩ = some (.int .i64 tl) := by first | (rw [ha]; with_reducible assumption) | (simp (maxDischargeDepth := 7) [go_sem, ha]; done) | (rw [ha]; assumption) | (simp (maxDischargeDepth := 7) [go_sem, ha, *]; done)
    have hf1_0_1 : w1.cell? ⟨w.heap.size, 1, none⟩ = some (.int .i64 th) := by first | (rw [ha]; with_reducible assumption) | (simp (maxDischargeDepth := 7) [go_sem, ha]; done) | (rw [ha]; assumption) | (simp (maxDischargeDepth := 7) [go_sem, ha, *]; done)
    try have hg1_0 : ∀ o, w1.frozen? ⟨w.heap.size, o, none⟩ = false := by intro o; first | (simp (maxDischargeDepth := 7) [go_sem, hb]; done) | (rw [hb]; simp (maxDischargeDepth := 7) [go_sem, *]; done)
    clear ha hb
    refine kuse (b := w.heap.size + 1) hk1 (by first | (simp; done) | (simp; omega) | omega) ?_
    intro ha hb
    have hz1_1 : w.heap.size + 1 < w1.heap.size := by have := hk1.size; (try simp at this); omega
    have hn1_1 : ¬ w.heap.size + 1 = w1.heap.size := by omega
    have hm1_1 : ¬ w1.heap.size = w.heap.size + 1 := by omega
    have hf1_1_0 : w1.cell? ⟨w.heap.size + 1, 0, none⟩ = some (.int .i64 el) := by first | (rw [ha]; with_reducible assumption) | (simp (maxDischargeDepth := 7) [go_sem, ha]; done) | (rw [ha]; assumption) | (simp (maxDischargeDepth := 7) [go_sem, ha, *]; done)
    have hf1_1_1 : w1.cell? ⟨w.heap.size + 1, 1, none⟩ = some (.int .i64 eh) := by first | (rw [ha]; with_reducible assumption) | (simp (maxDischargeDepth := 7) [go_sem, ha]; done) | (rw [ha]; assumption) | (simp (maxDischargeDepth := 7) [go_sem, ha, *]; done)
    have hf1_1_2 : w1.cell? ⟨w.heap.size + 1, 2, none⟩ = some (.int .i64 nl) := by first | (rw [ha]; with_reducible assumption) | (simp (maxDischargeDepth := 7) [go_sem, ha]; done) | (rw [ha]; assumption) | (simp (maxDischargeDepth := 7) [go_sem, ha, *]; done)
    have hf1_1_3 : w1.cell? ⟨w.heap.size + 1, 3, none⟩ = some (.int .i64 nh) := by first | (rw [ha]; with_reducible assumption) | (simp (maxDischargeDepth := 7) [go_sem, ha]; done) | (rw [ha]; assumption) | (simp (maxDischargeDepth := 7) [go_sem, ha, *]; done)
    try have hg1_1 : ∀ o, w1.frozen? ⟨w.heap.size + 1, o, none⟩ = false := by intro o; first | (simp (maxDischargeDepth := 7) [go_sem, hb]; done) | (rw [hb]; simp (maxDischargeDepth := 7) [go_sem, *]; done)
    clear ha hb
    refine kuse (b := w.heap.size + 2) hk1 (by first | (simp; done) | (simp; omega) | omega) ?_
    intro ha hb
    have hz1_2 : w.heap.size + 2 < w1.heap.size := by have := hk1.size; (try simp at this); omega
    have hn1_2 : ¬ w.heap.size + 2 = w1.heap.size := by omega
    have hm1_2 : ¬ w1.heap.size = w.heap.size + 2 := by omega
    have hf1_2_0 : w1.cell? ⟨w.heap.size + 2, 0, none⟩ = some (.int .i64 0) := by first | (rw [ha]; with_reducible assumption) | (simp (maxDischargeDepth := 7) [go_sem, ha]; done) | (rw [ha]; assumption) | (simp (maxDischargeDepth := 7) [go_sem, ha, *]; done)
    have hf1_2_1 : w1.cell? ⟨w.heap.size + 2, 1, none⟩ = some (.int .i64 0) := by first | (rw [ha]; with_reducible assumption) | (simp (maxDischargeDepth := 7) [go_sem, ha]; done) | (rw [ha]; assumption) | (simp (maxDischargeDepth := 7) [go_sem, ha, *]; done)
    try have hg1_2 : ∀ o, w1.frozen? ⟨w.heap.size + 2, o, none⟩ = false := by intro o; first | (simp (maxDischargeDepth := 7) [go_sem, hb]; done) | (rw [hb]; simp (maxDischargeDepth := 7) [go_sem, *]; done)
    clear ha hb
    go_wp2_with fail
    all_goals exact bodyPost_ret (v := .tuple #[.agg #[.int .i64 0, .int .i64 0], .int .i64 1]) (by first | (simp [results, Tryz.results24, go_sem]; done) | (simp (maxDischargeDepth := 7) [results, Tryz.results24, go_sem, *]; done)) rfl ⟨rfl, (by repeat (first | with_reducible exact Kept.refl _ | with_reducible assumption | with_reducible refine Kept.setCell ?_ (by first | (simp; done) | (simp; omega) | omega) _ | with_reducible refine Kept.alloc ?_ _ | with_reducible refine Kept.drewN ?_ _ | with_reducible refine Kept.drew ?_ | with_reducible refine Kept.trans ?_ (by with_reducible assumption) | with_reducible refine Kept.dr ?_ (by with_reducible assumption)))⟩
set_option maxHeartbeats 2000000 in
set_option maxRecDepth 100000 in
theorem ref_gi_w (c tl th el eh nl nh : Int) (c_0 : -9223372036854775808 ≤ c) (c_1 : c ≤ 9223372036854775807) (tl_0 : -9223372036854775808 ≤ tl) (tl_1 : tl ≤ 9223372036854775807) (th_0 : -9223372036854775808 ≤ th) (th_1 : th ≤ 9223372036854775807) (w : World) : Calls Tryz.prog 24 #[.int .i64 c, .agg #[.int .i64 tl, .int .i64 th], .agg #[.int .i64 el, .int .i64 eh, .int .i64 nl, .int .i64 nh]] w fun e w' => e = .returned (.tuple #[.agg #[.int .i64 (giL c tl th el eh nl nh), .int .i64 (giH c tl th el eh nl nh)], .int .i64 (giE c tl th el eh nl nh)]) ∧ Kept w w' := by
  by_cases h : bxB el eh nl nh = false ∨ tl < 1 ∨ 4000 < th ∨ th < tl
  · obtain ⟨x1, x2, x3⟩ := gi_E1 (c := c) h
    rw [x1, x2, x3]
    cases hw : bxB el eh nl nh with
    | false => exact ref_gi_arg c tl th el eh nl nh c_0 c_1 tl_0 tl_1 th_0 th_1 hw w
    | true =>
      rw [hw] at h
      exact ref_gi_tas c tl th el eh nl nh c_0 c_1 tl_0 tl_1 th_0 th_1 hw (by simpa using h) w
  · have hw : bxB el eh nl nh = true := by cases e : bxB el eh nl nh with | true => rfl | false => exact absurd (Or.inl e) h
    exact ref_gi_in c tl th el eh nl nh c_0 c_1 hw (by omega) (by omega) (by omega) w
end Go.Proofs.YtfpgdicacjkfoaaGreatDoor
