/-
  Own contracts: package wide and the document's answers: square roots.
-/
import Derived.Test.YtinpmooihjdbgaaWide
import Derived.Test.YtinpmooihjdbgaaRow
import Derived.WalkKit
import Derived.ProofKit
import Derived.OpenShut
import Derived.WalkLawsBesides
import Derived.WalkSpells
import Derived.Lib.Hide
import Derived.Deep.DeepCutAuto
import Derived.Deep.CutBlock
import Derived.Deep.QuietTactic
import Derived.BigQuiet
import Derived.Handy
import Derived.StillTailTactics
import Derived.IntWalk
import Derived.LoopN
import Derived.Deep.RegionHeld3
namespace Go.Proofs.Ytinpmooihjdbgaa
open Go.ChangeShapes Go.WideShapes Go.ChangeAt Go.RowKit
set_option linter.unusedVariables false
set_option linter.unusedSimpArgs false

def wsq (u : Int) : Int := if u < 0 then 0 else isqS u.toNat 64 0
def wsqE (u : Int) : Bool := !decide (u < 0)
theorem tup2ub {a b : Int} {x y : Bool} (h : a = b) (k : x = y) : Ending.returned (.tuple #[.int .u64 a, .bool x]) = .returned (.tuple #[.int .u64 b, .bool y]) := by rw [h, k]
theorem wsq_spec (u : Int) (h0 : 0 ≤ u) (h1 : u < 340282366920938463463374607431768211456) : 0 ≤ wsq u ∧ wsq u ≤ 18446744073709551615 ∧ wsq u * wsq u ≤ u ∧ u < (wsq u + 1) * (wsq u + 1) := by
  obtain ⟨n, rfl⟩ := Int.eq_ofNat_of_zero_le h0
  have e : wsq (n : Int) = (isqS n 64 0 : Nat) := by unfold wsq; rw [if_neg (by omega), Int.toNat_natCast]
  have h := isqS_ok n 64 0 (by omega) (by show n < (0 + 2 ^ 64) * (0 + 2 ^ 64); omega)
  rw [e]
  generalize isqS n 64 0 = s at *
  have k : s ≤ 18446744073709551615 := by
    by_cases c : s ≤ 18446744073709551615
    · exact c
    · exfalso
      have := Nat.mul_le_mul (show 18446744073709551616 ≤ s by omega) (show 18446744073709551616 ≤ s by omega)
      omega
  refine ⟨by omega, by omega, ?_, ?_⟩
  · have := h.1; exact_mod_cast this
  · have := h.2; exact_mod_cast this
theorem wsq_sq (x : Int) (h0 : 0 ≤ x) (h1 : x ≤ 18446744073709551615) : wsq (x * x) = x := by
  have hm := le_mul x x 18446744073709551615 18446744073709551615 h0 h1 h0 h1
  obtain ⟨s0, s1, s2, s3⟩ := wsq_spec (x * x) hm.1 (by omega)
  generalize wsq (x * x) = s at *
  by_cases c : s = x
  · exact c
  · exfalso
    rcases Int.lt_or_gt_of_ne c with c | c
    · have := Int.mul_le_mul (show s + 1 ≤ x by omega) (show s + 1 ≤ x by omega) (by omega) h0
      omega
    · have := Int.mul_le_mul (show x + 1 ≤ s by omega) (show x + 1 ≤ s by omega) (by omega) s0
      rw [Int.add_mul, Int.mul_add] at this; omega
set_option maxHeartbeats 2000000 in
set_option maxRecDepth 100000 in
theorem wsqrt_w (u : Int) (u0 : -170141183460469231731687303715884105728 ≤ u) (u1 : u < 170141183460469231731687303715884105728) (w : World) : Calls Try.prog 53 #[.agg #[.int .i64 (wh (u)), .int .u64 (wl (u))]] w fun e w' => e = .returned (.tuple #[.int .u64 (wsq u), .bool (wsqE u)]) ∧ Kept w w' := by
  by_cases c1 : u < 0
  · have e1 : wsq u = 0 := by unfold wsq; rw [if_pos c1]
    have e2 : wsqE u = false := by unfold wsqE; rw [decide_eq_true c1]; rfl
    rw [e1, e2]
    have A2 : wh u < 0 := (by unfold wh; omega)
    generalize wh u = A at *; generalize wl u = a at *
    clear c1 e1 e2 u0 u1
    go_enter Try.func53, Try.ntmps53
    go_wp2_with fail
    go_ret2
    exact ⟨rfl, (by repeat (first | with_reducible exact Kept.refl _ | with_reducible assumption | with_reducible refine Kept.setCell ?_ (by first | (simp; done) | (simp; omega) | omega) _ | with_reducible refine Kept.alloc ?_ _ | with_reducible refine Kept.drewN ?_ _ | with_reducible refine Kept.drew ?_ | with_reducible refine Kept.trans ?_ (by with_reducible assumption) | with_reducible refine Kept.dr ?_ (by with_reducible assumption)))⟩
  · have e2 : wsqE u = true := by unfold wsqE; rw [decide_eq_false c1]; rfl
    rw [e2]
    clear e2
    obtain ⟨eu, a0, a1⟩ := wv u
    have A2 : ¬ wh u < 0 := (by unfold wh; omega)
    have A3 : 0 ≤ wh u := (by unfold wh; omega)
    have A4 : wh u ≤ 18446744073709551615 := (by unfold wh; omega)
    have eN : (u.toNat : Int) = u := by omega
    have e : wsq u = (isqS u.toNat 64 0 : Nat) := by unfold wsq; rw [if_neg c1]
    generalize hN : u.toNat = N at *
    have E := Lib.hid e
    have EN := Lib.hid eN
    have EU := Lib.hid eu
    have HSZ := size_w u u0 u1
    rw [wmag_pos u c1] at HSZ
    have HS := Lib.hid HSZ
    clear e eN hN eu HSZ
    go_enter Try.func53, Try.ntmps53
    go_wp2_with fail
    go_loopw [4, 5] (fun t b wr => Kept w wr ∧ OwnB wr (w.heap.size) [.int .i64 (wh u), .int .u64 (wl u)] ∧ ∃ k r : Nat, k ≤ 64 ∧ t = .int .u64 (r : Int) ∧ b = .int .u64 ((2 : Int) ^ k / 2) ∧ r % 2 ^ k = 0 ∧ r + 2 ^ k ≤ 18446744073709551616 ∧ isqS N k r = isqS N 64 0) (fun _ b _ => (intOf b).toNat)
    case atStart => exact ⟨(by repeat (first | with_reducible exact Kept.refl _ | with_reducible assumption | with_reducible refine Kept.alloc ?_ _ | with_reducible refine Kept.drewN ?_ _ | with_reducible refine Kept.drew ?_ | with_reducible refine Kept.trans ?_ (by with_reducible assumption))), own_alloc _ [.int .i64 (wh u), .int .u64 (wl u)] 45, 64, 0, by omega, rfl, rfl, rfl, by decide, rfl⟩
    case round =>
      obtain ⟨hkw, O, k, r, hk, rfl, rfl, hr, hb, hs⟩ := hrel
      have HO := Lib.hid O
      obtain ⟨hz0, hg0, hf0, hf1, _⟩ := O
      have HK := Lib.hid hkw
      clear hkw
      cases k with
      | zero =>
        have hz : ((2 : Int) ^ 0 / 2) = 0 := rfl
        have HS2 := Lib.hid hs
        clear hs hr hb HS
        go_wp2_with fail
        go_ret2
        exact ⟨tup2ub (by rw [E.out, ← HS2.out]; rfl) rfl, HK.out⟩
      | succ k =>
        have hp := Nat.two_pow_pos k
        have hB : ((2 : Int) ^ (k + 1) / 2) = ((2 ^ k : Nat) : Int) := by rw [Int.pow_succ]; push_cast; omega
        have hlo : r % 2 ^ k = 0 := by
          have := Nat.mod_mod_of_dvd r (Nat.pow_dvd_pow 2 (show k ≤ k + 1 by omega))
          rw [hr] at this; simpa using this.symm
        have hb' : r + 2 ^ k + 2 ^ k ≤ 18446744073709551616 := by rw [Nat.pow_succ] at hb; omega
        have hlo2 : (r + 2 ^ k) % 2 ^ k = 0 := by simp [hlo]
        have hor : bits .or .u64 (r : Int) ((2 ^ k : Nat) : Int) = (r : Int) + ((2 ^ k : Nat) : Int) := by
          refine or_join _ _ (k + 1) (by omega) (by omega) (by omega) ?_ (by omega) ?_
          · have : ((r % 2 ^ (k + 1) : Nat) : Int) = 0 := by rw [hr]; rfl
            push_cast at this; exact this
          · have : ((2 ^ k : Nat) : Int) < ((2 ^ (k + 1) : Nat) : Int) := by rw [Nat.pow_succ]; omega
            push_cast at this ⊢; exact this
        have hhalf : ((2 ^ k : Nat) : Int) / 2 = (2 : Int) ^ k / 2 := by push_cast; rfl
        have hstep : isqS N (k + 1) r = isqS N k (if (r + 2 ^ k) * (r + 2 ^ k) ≤ N then r + 2 ^ k else r) := rfl
        rw [hs] at hstep
        have HB := Lib.hid hB
        have HH := Lib.hid hhalf
        have HST := Lib.hid hstep
        have HL := Lib.hid hlo
        have HL2 := Lib.hid hlo2
        obtain ⟨B, hBB⟩ : ∃ B, 2 ^ k = B := ⟨_, rfl⟩
        rw [hB, hBB]
        clear hs hB hhalf hstep hlo hlo2 hr hb
        rw [hBB] at hor HST HL HL2 HH hb' hp
        have HBB := Lib.hid hBB
        clear hBB
        have hmm : (((r + B) * (r + B) : Nat) : Int) = ((r : Int) + B) * ((r : Int) + B) := by push_cast; rfl
        obtain ⟨M, hM⟩ : ∃ M, (r : Int) + B = M := ⟨_, rfl⟩
        rw [hM] at hor hmm
        have M0 : 0 ≤ M := by omega
        have M1 : M ≤ 18446744073709551615 := by omega
        obtain ⟨Hh, hHh⟩ : ∃ x, M * M / 18446744073709551616 = x := ⟨_, rfl⟩
        obtain ⟨Ll, hLl⟩ : ∃ x, M * M % 18446744073709551616 = x := ⟨_, rfl⟩
        have Hl0 : 0 ≤ Hh := by rw [← hHh]; exact Int.ediv_nonneg (Int.mul_nonneg M0 M0) (by omega)
        have Ll0 : 0 ≤ Ll := by omega
        have Ll1 : Ll ≤ 18446744073709551615 := by omega
        have hw1 : wh (M * M) = Hh := hHh
        have hw2 : wl (M * M) = Ll := hLl
        have hP := mul64_w M M M0 M1 M0 M1
        simp only [hHh, hLl] at hP
        have HP := Lib.hid hP
        clear hP
        by_cases c2 : (r + B) * (r + B) ≤ N
        · have c2' := HST.out
          rw [if_pos c2] at c2'
          have HST' := Lib.hid c2'
          have eU := EU.out
          have eN := EN.out
          have LN' := less_no u (M * M) (by omega)
          rw [hw1, hw2] at LN'
          have LN := Lib.hid LN'
          clear LN' eU eN c2 c2' HST hmm hw1 hw2 hHh hLl
          have HMM := Lib.hid hM
          clear hM
          go_wp2_with fail
          with_reducible refine (HP.out _).mono ?_
          rintro e w' ⟨rfl, rfl⟩
          go_wp2_with fail
          with_reducible refine (HS.out _).mono ?_
          rintro e w1 ⟨rfl, hk1⟩
          refine kuse (b := w.heap.size) hk1 (by first | (simp; done) | (simp; omega) | omega) ?_
          intro ha hb
          have hz1_0 : w.heap.size < w1.heap.size := by have := hk1.size; (try simp at this); omega
          have hn1_0 : ¬ w.heap.size = w1.heap.size := by omega
          have hm1_0 : ¬ w1.heap.size = w.heap.size := by omega
          have hf1_0_0 : w1.cell? ⟨w.heap.size, 0, none⟩ = some (.int .i64 (wh u)) := by first | (rw [ha]; with_reducible assumption) | (simp (maxDischargeDepth := 7) [go_sem, ha]; done) | (rw [ha]; assumption) | (simp (maxDischargeDepth := 7) [go_sem, ha, *]; done)
          have hf1_0_1 : w1.cell? ⟨w.heap.size, 1, none⟩ = some (.int .u64 (wl u)) := by first | (rw [ha]; with_reducible assumption) | (simp (maxDischargeDepth := 7) [go_sem, ha]; done) | (rw [ha]; assumption) | (simp (maxDischargeDepth := 7) [go_sem, ha, *]; done)
          try have hg1_0 : ∀ o, w1.frozen? ⟨w.heap.size, o, none⟩ = false := by intro o; first | (simp (maxDischargeDepth := 7) [go_sem, hb]; done) | (rw [hb]; simp (maxDischargeDepth := 7) [go_sem, *]; done)
          clear ha hb
          go_wp2_with fail
          with_reducible refine (LN.out _).mono ?_
          rintro e w2 ⟨rfl, hk2⟩
          refine kuse (b := w.heap.size) hk2 (by first | (simp; done) | (simp; omega) | omega) ?_
          intro ha hb
          have hz2_0 : w.heap.size < w2.heap.size := by have := hk2.size; (try simp at this); omega
          have hn2_0 : ¬ w.heap.size = w2.heap.size := by omega
          have hm2_0 : ¬ w2.heap.size = w.heap.size := by omega
          have hf2_0_0 : w2.cell? ⟨w.heap.size, 0, none⟩ = some (.int .i64 (wh u)) := by first | (rw [ha]; with_reducible assumption) | (simp (maxDischargeDepth := 7) [go_sem, ha]; done) | (rw [ha]; assumption) | (simp (maxDischargeDepth := 7) [go_sem, ha, *]; done)
          have hf2_0_1 : w2.cell? ⟨w.heap.size, 1, none⟩ = some (.int .u64 (wl u)) := by first | (rw [ha]; with_reducible assumption) | (simp (maxDischargeDepth := 7) [go_sem, ha]; done) | (rw [ha]; assumption) | (simp (maxDischargeDepth := 7) [go_sem, ha, *]; done)
          try have hg2_0 : ∀ o, w2.frozen? ⟨w.heap.size, o, none⟩ = false := by intro o; first | (simp (maxDischargeDepth := 7) [go_sem, hb]; done) | (rw [hb]; simp (maxDischargeDepth := 7) [go_sem, *]; done)
          clear ha hb
          try clear hf1_0_0
          try clear hf1_0_1
          try clear hg1_0
          go_wp2_with fail
          have hkw := HK.out
          exact ⟨⟨(by repeat (first | with_reducible exact Kept.refl _ | with_reducible assumption | with_reducible refine Kept.alloc ?_ _ | with_reducible refine Kept.drewN ?_ _ | with_reducible refine Kept.drew ?_ | with_reducible refine Kept.trans ?_ (by with_reducible assumption))), (by repeat (first | with_reducible exact HO.out | with_reducible refine OwnB.kept (by with_reducible assumption) ?_)), k, r + B, by omega, by rw [← HMM.out]; push_cast; rfl, by rw [HH.out], by rw [HBB.out]; exact HL2.out, by rw [HBB.out]; exact hb', HST'.out.symm⟩, by simp [intOf]; omega⟩
        · have c2' := HST.out
          rw [if_neg c2] at c2'
          have HST' := Lib.hid c2'
          have eU := EU.out
          have eN := EN.out
          have LN' := less_yes u (M * M) (by omega)
          rw [hw1, hw2] at LN'
          have LN := Lib.hid LN'
          clear LN' eU eN c2 c2' HST hmm hw1 hw2 hHh hLl
          have HMM := Lib.hid hM
          clear hM
          go_wp2_with fail
          with_reducible refine (HP.out _).mono ?_
          rintro e w' ⟨rfl, rfl⟩
          go_wp2_with fail
          with_reducible refine (HS.out _).mono ?_
          rintro e w1 ⟨rfl, hk1⟩
          refine kuse (b := w.heap.size) hk1 (by first | (simp; done) | (simp; omega) | omega) ?_
          intro ha hb
          have hz1_0 : w.heap.size < w1.heap.size := by have := hk1.size; (try simp at this); omega
          have hn1_0 : ¬ w.heap.size = w1.heap.size := by omega
          have hm1_0 : ¬ w1.heap.size = w.heap.size := by omega
          have hf1_0_0 : w1.cell? ⟨w.heap.size, 0, none⟩ = some (.int .i64 (wh u)) := by first | (rw [ha]; with_reducible assumption) | (simp (maxDischargeDepth := 7) [go_sem, ha]; done) | (rw [ha]; assumption) | (simp (maxDischargeDepth := 7) [go_sem, ha, *]; done)
          have hf1_0_1 : w1.cell? ⟨w.heap.size, 1, none⟩ = some (.int .u64 (wl u)) := by first | (rw [ha]; with_reducible assumption) | (simp (maxDischargeDepth := 7) [go_sem, ha]; done) | (rw [ha]; assumption) | (simp (maxDischargeDepth := 7) [go_sem, ha, *]; done)
          try have hg1_0 : ∀ o, w1.frozen? ⟨w.heap.size, o, none⟩ = false := by intro o; first | (simp (maxDischargeDepth := 7) [go_sem, hb]; done) | (rw [hb]; simp (maxDischargeDepth := 7) [go_sem, *]; done)
          clear ha hb
          go_wp2_with fail
          with_reducible refine (LN.out _).mono ?_
          rintro e w2 ⟨rfl, hk2⟩
          refine kuse (b := w.heap.size) hk2 (by first | (simp; done) | (simp; omega) | omega) ?_
          intro ha hb
          have hz2_0 : w.heap.size < w2.heap.size := by have := hk2.size; (try simp at this); omega
          have hn2_0 : ¬ w.heap.size = w2.heap.size := by omega
          have hm2_0 : ¬ w2.heap.size = w.heap.size := by omega
          have hf2_0_0 : w2.cell? ⟨w.heap.size, 0, none⟩ = some (.int .i64 (wh u)) := by first | (rw [ha]; with_reducible assumption) | (simp (maxDischargeDepth := 7) [go_sem, ha]; done) | (rw [ha]; assumption) | (simp (maxDischargeDepth := 7) [go_sem, ha, *]; done)
          have hf2_0_1 : w2.cell? ⟨w.heap.size, 1, none⟩ = some (.int .u64 (wl u)) := by first | (rw [ha]; with_reducible assumption) | (simp (maxDischargeDepth := 7) [go_sem, ha]; done) | (rw [ha]; assumption) | (simp (maxDischargeDepth := 7) [go_sem, ha, *]; done)
          try have hg2_0 : ∀ o, w2.frozen? ⟨w.heap.size, o, none⟩ = false := by intro o; first | (simp (maxDischargeDepth := 7) [go_sem, hb]; done) | (rw [hb]; simp (maxDischargeDepth := 7) [go_sem, *]; done)
          clear ha hb
          try clear hf1_0_0
          try clear hf1_0_1
          try clear hg1_0
          go_wp2_with fail
          have hkw := HK.out
          exact ⟨⟨(by repeat (first | with_reducible exact Kept.refl _ | with_reducible assumption | with_reducible refine Kept.alloc ?_ _ | with_reducible refine Kept.drewN ?_ _ | with_reducible refine Kept.drew ?_ | with_reducible refine Kept.trans ?_ (by with_reducible assumption))), (by repeat (first | with_reducible exact HO.out | with_reducible refine OwnB.kept (by with_reducible assumption) ?_)), k, r, by omega, rfl, by rw [HH.out], by rw [HBB.out]; exact HL.out, by rw [HBB.out]; omega, HST'.out.symm⟩, by simp [intOf]; omega⟩
end Go.Proofs.Ytinpmooihjdbgaa
