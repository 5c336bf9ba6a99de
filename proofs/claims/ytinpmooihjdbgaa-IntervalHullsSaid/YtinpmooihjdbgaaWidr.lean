/-
  Own contracts: the document's answers of layer 2: sums, comparisons, magnitudes.
-/
import Derived.Test.YtinpmooihjdbgaaWidb
import Derived.Test.YtinpmooihjdbgaaRefa
import Derived.WalkKit
import Derived.ProofKit
import Derived.OpenShut
import Derived.WalkLawsBesides
import Derived.WalkSpells
import Derived.Lib.Hide
import Derived.Deep.DeepCutAuto
import Derived.Deep.CutBlock
import Derived.Deep.QuietTactic
import Derived.BigQuiet
import Derived.Handy
import Derived.StillTailTactics
import Derived.IntWalk
import Derived.LoopN
import Derived.Deep.RegionHeld3
namespace Go.Proofs.Ytinpmooihjdbgaa
open Go.ChangeShapes Go.WideShapes Go.ChangeAt Go.RowKit
set_option linter.unusedVariables false
set_option linter.unusedSimpArgs false

theorem tup2u {a b c d : Int} (h : a = c ∧ b = d) : Ending.returned (.tuple #[.int .u64 a, .int .u64 b]) = .returned (.tuple #[.int .u64 c, .int .u64 d]) := by rw [h.1, h.2]
theorem xor_max (n : Nat) (h : n < 18446744073709551616) : 18446744073709551615 ^^^ n = 18446744073709551615 - n := by
  have e := congrArg BitVec.toNat (BitVec.allOnes_xor (x := BitVec.ofNat 64 n))
  simp only [BitVec.toNat_xor, BitVec.toNat_allOnes, BitVec.toNat_not, BitVec.toNat_ofNat] at e
  rw [Nat.mod_eq_of_lt (show n < 2 ^ 64 from h)] at e
  exact e
theorem inot (x : Int) (h0 : 0 ≤ x) (h1 : x ≤ 18446744073709551615) : bits .xor .u64 IntKind.u64.max x = 18446744073709551615 - x := by
  obtain ⟨n, rfl⟩ := Int.eq_ofNat_of_zero_le h0
  have em : IntKind.u64.max = ((18446744073709551615 : Nat) : Int) := by decide
  rw [em, u64_xor_nat _ n (by omega) (by omega), xor_max n (by omega)]
  omega
theorem inot0 : bits .xor .u64 IntKind.u64.max 0 = 18446744073709551615 := by rw [inot 0 (by omega) (by omega)]; rfl
set_option maxHeartbeats 2000000 in
set_option maxRecDepth 100000 in
theorem ref_of_w (a : Int) (a_0 : -9223372036854775808 ≤ a) (a_1 : a ≤ 9223372036854775807) (w : World) : Calls Try.prog 57 #[.int .i64 a] w fun e w' => e = .returned (.agg #[.int .i64 (wh (a)), .int .u64 (wl (a))]) ∧ Kept w w' := by
  by_cases c : a < 0
  · have E : Hid (-1 = wh a ∧ IntKind.u64.wrap a = wl a) := by rw [IntKind.wrap_u64]; unfold wh wl; exact ⟨by omega, by omega⟩
    go_enter Try.func57, Try.ntmps57
    go_wp2_with fail
    exact bodyPost_ret (v := .agg #[.int .i64 (-1), .int .u64 (IntKind.u64.wrap a)]) (by first | (simp [results, Try.results57, go_sem]; done) | (simp (maxDischargeDepth := 7) [results, Try.results57, go_sem, *]; done)) rfl ⟨agg2 E.out.1 E.out.2, (by repeat (first | with_reducible exact Kept.refl _ | with_reducible assumption | with_reducible refine Kept.setCell ?_ (by first | (simp; done) | (simp; omega) | omega) _ | with_reducible refine Kept.alloc ?_ _ | with_reducible refine Kept.drewN ?_ _ | with_reducible refine Kept.drew ?_ | with_reducible refine Kept.trans ?_ (by with_reducible assumption) | with_reducible refine Kept.dr ?_ (by with_reducible assumption)))⟩

  · have E : Hid (0 = wh a ∧ a = wl a) := by unfold wh wl; exact ⟨by omega, by omega⟩
    go_enter Try.func57, Try.ntmps57
    go_wp2_with fail
    exact bodyPost_ret (v := .agg #[.int .i64 0, .int .u64 a]) (by first | (simp [results, Try.results57, go_sem]; done) | (simp (maxDischargeDepth := 7) [results, Try.results57, go_sem, *]; done)) rfl ⟨agg2 E.out.1 E.out.2, (by repeat (first | with_reducible exact Kept.refl _ | with_reducible assumption | with_reducible refine Kept.setCell ?_ (by first | (simp; done) | (simp; omega) | omega) _ | with_reducible refine Kept.alloc ?_ _ | with_reducible refine Kept.drewN ?_ _ | with_reducible refine Kept.drew ?_ | with_reducible refine Kept.trans ?_ (by with_reducible assumption) | with_reducible refine Kept.dr ?_ (by with_reducible assumption)))⟩
set_option maxHeartbeats 2000000 in
set_option maxRecDepth 100000 in
theorem ref_sz_w (u : Int) (u0 : -170141183460469231731687303715884105728 ≤ u) (u1 : u < 170141183460469231731687303715884105728) (w : World) : Calls Try.prog 98 #[.agg #[.int .i64 (wh (u)), .int .u64 (wl (u))]] w fun e w' => e = .returned (.tuple #[.int .u64 (wh (wmag u)), .int .u64 (wl (wmag u))]) ∧ Kept w w' := by
  obtain ⟨eu, a0, a1⟩ := wv u
  have A0 : -9223372036854775808 ≤ wh u := (by unfold wh; omega)
  have A1 : wh u ≤ 9223372036854775807 := (by unfold wh; omega)
  by_cases c : u < 0
  · rw [wmag_neg u c]
    have A2 : wh u < 0 := (by unfold wh; omega)
    obtain ⟨X, hX⟩ : ∃ X, IntKind.u64.wrap (wh u) = X := ⟨_, rfl⟩
    have kX : X = wh u + 18446744073709551616 := by rw [← hX, IntKind.wrap_u64]; omega
    have X0 : 0 ≤ X := by omega
    have X1 : X ≤ 18446744073709551615 := by omega
    have nX := inot X X0 X1
    by_cases z : wl u = 0
    · have E : Hid (18446744073709551615 - X + 1 = wh (-u) ∧ 0 = wl (-u)) := by unfold wh wl at *; exact ⟨by omega, by omega⟩
      rw [z] at eu ⊢
      have X2 : 9223372036854775808 ≤ X := by omega
      have nZ := inot0
      have W0 : IntKind.u64.wrap (18446744073709551615 + 1) = 0 := by decide
      have W1 : IntKind.u64.wrap (18446744073709551615 - X + 1) = 18446744073709551615 - X + 1 := by rw [IntKind.wrap_u64]; omega
      generalize wh u = A at *
      clear kX eu u0 u1 c
      go_enter Try.func98, Try.ntmps98
      go_wp2_with fail
      go_quiet (fail)
      all_goals go_wp2_with fail
      all_goals first | (exfalso; omega) | (go_ret2; exact ⟨tup2u E.out, (by repeat (first | with_reducible exact Kept.refl _ | with_reducible assumption | with_reducible refine Kept.setCell ?_ (by first | (simp; done) | (simp; omega) | omega) _ | with_reducible refine Kept.alloc ?_ _ | with_reducible refine Kept.drewN ?_ _ | with_reducible refine Kept.drew ?_ | with_reducible refine Kept.trans ?_ (by with_reducible assumption) | with_reducible refine Kept.dr ?_ (by with_reducible assumption)))⟩)
    · obtain ⟨Y, hY⟩ : ∃ Y, 18446744073709551615 - wl u + 1 = Y := ⟨_, rfl⟩
      have E : Hid (18446744073709551615 - X = wh (-u) ∧ Y = wl (-u)) := by unfold wh wl at *; exact ⟨by omega, by omega⟩
      have z' : (Y == 0) = false := by rw [beq_eq_false_iff_ne]; omega
      have nA := inot (wl u) a0 a1
      have W1 : IntKind.u64.wrap (18446744073709551615 - wl u + 1) = Y := by rw [IntKind.wrap_u64]; omega
      have Y0 : 0 < Y := by omega
      have z'' : (IntKind.u64.wrap (bits .xor .u64 (if IntKind.u64.signed = true then -1 else IntKind.u64.max) (wl u) + 1) == 0) = false := by rw [if_neg (by decide), nA, W1]; exact z'
      clear hY z
      generalize wh u = A at *; generalize wl u = a at *
      clear kX eu u0 u1 c
      go_enter Try.func98, Try.ntmps98
      go_wp2_with fail
      go_quiet (fail)
      all_goals go_wp2_with fail
      all_goals first | (exfalso; omega) | (go_ret2; exact ⟨tup2u E.out, (by repeat (first | with_reducible exact Kept.refl _ | with_reducible assumption | with_reducible refine Kept.setCell ?_ (by first | (simp; done) | (simp; omega) | omega) _ | with_reducible refine Kept.alloc ?_ _ | with_reducible refine Kept.drewN ?_ _ | with_reducible refine Kept.drew ?_ | with_reducible refine Kept.trans ?_ (by with_reducible assumption) | with_reducible refine Kept.dr ?_ (by with_reducible assumption)))⟩)
  · rw [wmag_pos u c]
    have A2 : ¬ wh u < 0 := (by unfold wh; omega)
    have A3 : 0 ≤ wh u := by omega
    generalize wh u = A at *; generalize wl u = a at *
    clear eu u0 u1 c
    go_enter Try.func98, Try.ntmps98
    go_wp2_with fail
    go_quiet (fail)
    all_goals go_wp2_with fail
    go_ret2
    exact ⟨rfl, (by repeat (first | with_reducible exact Kept.refl _ | with_reducible assumption | with_reducible refine Kept.setCell ?_ (by first | (simp; done) | (simp; omega) | omega) _ | with_reducible refine Kept.alloc ?_ _ | with_reducible refine Kept.drewN ?_ _ | with_reducible refine Kept.drew ?_ | with_reducible refine Kept.trans ?_ (by with_reducible assumption) | with_reducible refine Kept.dr ?_ (by with_reducible assumption)))⟩
set_option maxHeartbeats 2000000 in
set_option maxRecDepth 100000 in
theorem ref_signed_w (m : Int) (m0 : 0 ≤ m) (m1 : m < 340282366920938463463374607431768211456) (n : Bool) (w : World) : Calls Try.prog 81 #[.bool n, .int .u64 (wh m), .int .u64 (wl m)] w fun e w' => e = .returned (.tuple #[.agg #[.int .i64 (wh (wval (sgd n m))), .int .u64 (wl (wval (sgd n m)))], .bool (wfit (sgd n m))]) ∧ Kept w w' := by
  cases n
  · obtain ⟨em, a0, a1⟩ := wv m
    have A0 : 0 ≤ wh m := (by unfold wh; omega)
    have A1 : wh m ≤ 18446744073709551615 := (by unfold wh; omega)
    by_cases c1 : 9223372036854775808 < wh m
    · have e3 := wfit_no (u := sgd false m) (by unfold sgd; rw [if_neg (by decide)]; omega)
      rw [e3.2, e3.1]
      clear e3
      generalize wh m = A at *; generalize wl m = a at *
      clear em m0 m1
      go_enter Try.func81, Try.ntmps81
      go_wp2_with fail
      all_goals exact bodyPost_ret (v := .tuple #[.agg #[.int .i64 0, .int .u64 0], .bool false]) (by first | (simp [results, Try.results81, go_sem]; done) | (simp (maxDischargeDepth := 7) [results, Try.results81, go_sem, *]; done)) rfl ⟨rfl, (by repeat (first | with_reducible exact Kept.refl _ | with_reducible assumption | with_reducible refine Kept.setCell ?_ (by first | (simp; done) | (simp; omega) | omega) _ | with_reducible refine Kept.alloc ?_ _ | with_reducible refine Kept.drewN ?_ _ | with_reducible refine Kept.drew ?_ | with_reducible refine Kept.trans ?_ (by with_reducible assumption) | with_reducible refine Kept.dr ?_ (by with_reducible assumption)))⟩
    · by_cases c2 : wh m = 9223372036854775808
      · have e3 := wfit_no (u := sgd false m) (by unfold sgd; rw [if_neg (by decide)]; omega)
        rw [e3.2, e3.1]
        clear e3
        rw [c2]
        generalize wl m = a at *
        clear c1 c2 A0 A1 em m0 m1
        by_cases z : a = 0
        · subst z
          go_enter Try.func81, Try.ntmps81
          go_wp2_with fail
          all_goals exact bodyPost_ret (v := .tuple #[.agg #[.int .i64 0, .int .u64 0], .bool false]) (by first | (simp [results, Try.results81, go_sem]; done) | (simp (maxDischargeDepth := 7) [results, Try.results81, go_sem, *]; done)) rfl ⟨rfl, (by repeat (first | with_reducible exact Kept.refl _ | with_reducible assumption | with_reducible refine Kept.setCell ?_ (by first | (simp; done) | (simp; omega) | omega) _ | with_reducible refine Kept.alloc ?_ _ | with_reducible refine Kept.drewN ?_ _ | with_reducible refine Kept.drew ?_ | with_reducible refine Kept.trans ?_ (by with_reducible assumption) | with_reducible refine Kept.dr ?_ (by with_reducible assumption)))⟩
        · have z' : (a == 0) = false := by rw [beq_eq_false_iff_ne]; exact z
          clear z
          go_enter Try.func81, Try.ntmps81
          go_wp2_with fail
          all_goals exact bodyPost_ret (v := .tuple #[.agg #[.int .i64 0, .int .u64 0], .bool false]) (by first | (simp [results, Try.results81, go_sem]; done) | (simp (maxDischargeDepth := 7) [results, Try.results81, go_sem, *]; done)) rfl ⟨rfl, (by repeat (first | with_reducible exact Kept.refl _ | with_reducible assumption | with_reducible refine Kept.setCell ?_ (by first | (simp; done) | (simp; omega) | omega) _ | with_reducible refine Kept.alloc ?_ _ | with_reducible refine Kept.drewN ?_ _ | with_reducible refine Kept.drew ?_ | with_reducible refine Kept.trans ?_ (by with_reducible assumption) | with_reducible refine Kept.dr ?_ (by with_reducible assumption)))⟩
      · have n1 : (wh m == 9223372036854775808) = false := by rw [beq_eq_false_iff_ne]; exact c2
        have e3 := wfit_yes (u := sgd false m) (by unfold sgd; rw [if_neg (by decide)]; omega) (by unfold sgd; rw [if_neg (by decide)]; omega)
        rw [e3.2, e3.1]
        clear e3
        have E : Hid (wrap64 (wh m) = wh (sgd false m) ∧ wl m = wl (sgd false m)) := by unfold sgd; rw [if_neg (by decide)]; unfold wh wrap64 at *; exact ⟨by omega, rfl⟩
        generalize wh m = A at *; generalize wl m = a at *
        clear em m0 m1 c2
        go_enter Try.func81, Try.ntmps81
        go_wp2_with fail
        all_goals exact bodyPost_ret (v := .tuple #[.agg #[.int .i64 (wrap64 A), .int .u64 a], .bool true]) (by first | (simp [results, Try.results81, go_sem]; done) | (simp (maxDischargeDepth := 7) [results, Try.results81, go_sem, *]; done)) rfl ⟨agg2e E.out rfl, (by repeat (first | with_reducible exact Kept.refl _ | with_reducible assumption | with_reducible refine Kept.setCell ?_ (by first | (simp; done) | (simp; omega) | omega) _ | with_reducible refine Kept.alloc ?_ _ | with_reducible refine Kept.drewN ?_ _ | with_reducible refine Kept.drew ?_ | with_reducible refine Kept.trans ?_ (by with_reducible assumption) | with_reducible refine Kept.dr ?_ (by with_reducible assumption)))⟩
  · obtain ⟨em, a0, a1⟩ := wv m
    have A0 : 0 ≤ wh m := (by unfold wh; omega)
    have A1 : wh m ≤ 18446744073709551615 := (by unfold wh; omega)
    by_cases c1 : 9223372036854775808 < wh m
    · have e3 := wfit_no (u := sgd true m) (by unfold sgd; rw [if_pos rfl]; omega)
      rw [e3.2, e3.1]
      clear e3
      generalize wh m = A at *; generalize wl m = a at *
      clear em m0 m1
      go_enter Try.func81, Try.ntmps81
      go_wp2_with fail
      all_goals exact bodyPost_ret (v := .tuple #[.agg #[.int .i64 0, .int .u64 0], .bool false]) (by first | (simp [results, Try.results81, go_sem]; done) | (simp (maxDischargeDepth := 7) [results, Try.results81, go_sem, *]; done)) rfl ⟨rfl, (by repeat (first | with_reducible exact Kept.refl _ | with_reducible assumption | with_reducible refine Kept.setCell ?_ (by first | (simp; done) | (simp; omega) | omega) _ | with_reducible refine Kept.alloc ?_ _ | with_reducible refine Kept.drewN ?_ _ | with_reducible refine Kept.drew ?_ | with_reducible refine Kept.trans ?_ (by with_reducible assumption) | with_reducible refine Kept.dr ?_ (by with_reducible assumption)))⟩
    · by_cases c2 : wh m = 9223372036854775808
      · by_cases z : wl m = 0
        · have v1 : wh (sgd true m) = -9223372036854775808 := by unfold sgd wh; rw [if_pos rfl]; omega
          have v2 : wl (sgd true m) = 0 := by unfold sgd wl; rw [if_pos rfl]; omega
          have e3 := wfit_yes (u := sgd true m) (by unfold sgd; rw [if_pos rfl]; omega) (by unfold sgd; rw [if_pos rfl]; omega)
          rw [e3.2, e3.1]
          clear e3
          have E : Hid (-9223372036854775808 = wh (sgd true m) ∧ 0 = wl (sgd true m)) := Lib.hid ⟨v1.symm, v2.symm⟩
          rw [c2, z]
          clear v1 v2 c1 c2 z A0 A1 a0 a1 em m0 m1
          have nX := inot 9223372036854775808 (by omega) (by omega)
          have nZ := inot0
          have W0 : IntKind.u64.wrap (18446744073709551615 + 1) = 0 := by decide
          have W0' : IntKind.u64.wrap 18446744073709551616 = 0 := by decide
          have W63 : IntKind.u64.wrap 9223372036854775808 = 9223372036854775808 := by decide
          have z1 : wrap64 9223372036854775808 = -9223372036854775808 := by unfold wrap64; omega
          go_enter Try.func81, Try.ntmps81
          go_wp2_with fail
          all_goals exact bodyPost_ret (v := .tuple #[.agg #[.int .i64 (-9223372036854775808), .int .u64 0], .bool true]) (by first | (simp [results, Try.results81, go_sem]; done) | (simp (maxDischargeDepth := 7) [results, Try.results81, go_sem, *]; done)) rfl ⟨agg2e E.out rfl, (by repeat (first | with_reducible exact Kept.refl _ | with_reducible assumption | with_reducible refine Kept.setCell ?_ (by first | (simp; done) | (simp; omega) | omega) _ | with_reducible refine Kept.alloc ?_ _ | with_reducible refine Kept.drewN ?_ _ | with_reducible refine Kept.drew ?_ | with_reducible refine Kept.trans ?_ (by with_reducible assumption) | with_reducible refine Kept.dr ?_ (by with_reducible assumption)))⟩
        · have e3 := wfit_no (u := sgd true m) (by unfold sgd; rw [if_pos rfl]; omega)
          rw [e3.2, e3.1]
          clear e3
          have z' : (wl m == 0) = false := by rw [beq_eq_false_iff_ne]; exact z
          rw [c2]
          generalize wl m = a at *
          clear c1 c2 z A0 A1 em m0 m1
          go_enter Try.func81, Try.ntmps81
          go_wp2_with fail
          all_goals exact bodyPost_ret (v := .tuple #[.agg #[.int .i64 0, .int .u64 0], .bool false]) (by first | (simp [results, Try.results81, go_sem]; done) | (simp (maxDischargeDepth := 7) [results, Try.results81, go_sem, *]; done)) rfl ⟨rfl, (by repeat (first | with_reducible exact Kept.refl _ | with_reducible assumption | with_reducible refine Kept.setCell ?_ (by first | (simp; done) | (simp; omega) | omega) _ | with_reducible refine Kept.alloc ?_ _ | with_reducible refine Kept.drewN ?_ _ | with_reducible refine Kept.drew ?_ | with_reducible refine Kept.trans ?_ (by with_reducible assumption) | with_reducible refine Kept.dr ?_ (by with_reducible assumption)))⟩
      · have n1 : (wh m == 9223372036854775808) = false := by rw [beq_eq_false_iff_ne]; exact c2
        have e3 := wfit_yes (u := sgd true m) (by unfold sgd; rw [if_pos rfl]; omega) (by unfold sgd; rw [if_pos rfl]; omega)
        rw [e3.2, e3.1]
        clear e3
        by_cases z : wl m = 0
        · obtain ⟨H, hH⟩ : ∃ H, (18446744073709551616 - wh m) % 18446744073709551616 = H := ⟨_, rfl⟩
          have E : Hid (wrap64 H = wh (sgd true m) ∧ 0 = wl (sgd true m)) := by unfold sgd; rw [if_pos rfl]; unfold wh wl wrap64 at *; exact ⟨by omega, by omega⟩
          have nA := inot (wh m) A0 A1
          have nZ := inot0
          have W0 : IntKind.u64.wrap (18446744073709551615 + 1) = 0 := by decide
          have W0' : IntKind.u64.wrap 18446744073709551616 = 0 := by decide
          have W63 : IntKind.u64.wrap 9223372036854775808 = 9223372036854775808 := by decide
          have W1 : IntKind.u64.wrap (18446744073709551615 - wh m + 1) = H := by rw [IntKind.wrap_u64]; omega
          rw [z]
          generalize wh m = A at *
          clear em m0 m1 hH z c2
          go_enter Try.func81, Try.ntmps81
          go_wp2_with fail
          all_goals exact bodyPost_ret (v := .tuple #[.agg #[.int .i64 (wrap64 H), .int .u64 0], .bool true]) (by first | (simp [results, Try.results81, go_sem]; done) | (simp (maxDischargeDepth := 7) [results, Try.results81, go_sem, *]; done)) rfl ⟨agg2e E.out rfl, (by repeat (first | with_reducible exact Kept.refl _ | with_reducible assumption | with_reducible refine Kept.setCell ?_ (by first | (simp; done) | (simp; omega) | omega) _ | with_reducible refine Kept.alloc ?_ _ | with_reducible refine Kept.drewN ?_ _ | with_reducible refine Kept.drew ?_ | with_reducible refine Kept.trans ?_ (by with_reducible assumption) | with_reducible refine Kept.dr ?_ (by with_reducible assumption)))⟩
        · obtain ⟨Y, hY⟩ : ∃ Y, 18446744073709551615 - wl m + 1 = Y := ⟨_, rfl⟩
          have E : Hid (wrap64 (18446744073709551615 - wh m) = wh (sgd true m) ∧ Y = wl (sgd true m)) := by unfold sgd; rw [if_pos rfl]; unfold wh wl wrap64 at *; exact ⟨by omega, by omega⟩
          have nA := inot (wh m) A0 A1
          have na := inot (wl m) a0 a1
          have W1 : IntKind.u64.wrap (18446744073709551615 - wl m + 1) = Y := by rw [IntKind.wrap_u64]; omega
          have z' : (Y == 0) = false := by rw [beq_eq_false_iff_ne]; omega
          have z'' : (IntKind.u64.wrap (bits .xor .u64 (if IntKind.u64.signed = true then -1 else IntKind.u64.max) (wl m) + 1) == 0) = false := by rw [if_neg (by decide), na, W1]; exact z'
          generalize wh m = A at *; generalize wl m = a at *
          clear em m0 m1 hY z c2
          go_enter Try.func81, Try.ntmps81
          go_wp2_with fail
          all_goals exact bodyPost_ret (v := .tuple #[.agg #[.int .i64 (wrap64 (18446744073709551615 - A)), .int .u64 Y], .bool true]) (by first | (simp [results, Try.results81, go_sem]; done) | (simp (maxDischargeDepth := 7) [results, Try.results81, go_sem, *]; done)) rfl ⟨agg2e E.out rfl, (by repeat (first | with_reducible exact Kept.refl _ | with_reducible assumption | with_reducible refine Kept.setCell ?_ (by first | (simp; done) | (simp; omega) | omega) _ | with_reducible refine Kept.alloc ?_ _ | with_reducible refine Kept.drewN ?_ _ | with_reducible refine Kept.drew ?_ | with_reducible refine Kept.trans ?_ (by with_reducible assumption) | with_reducible refine Kept.dr ?_ (by with_reducible assumption)))⟩
set_option maxHeartbeats 2000000 in
set_option maxRecDepth 100000 in
theorem refw_add_w (u v : Int) (u0 : -170141183460469231731687303715884105728 ≤ u) (u1 : u < 170141183460469231731687303715884105728) (v0 : -170141183460469231731687303715884105728 ≤ v) (v1 : v < 170141183460469231731687303715884105728) (w : World) : Calls Try.prog 56 #[.agg #[.int .i64 (wh (u)), .int .u64 (wl (u))], .agg #[.int .i64 (wh (v)), .int .u64 (wl (v))]] w fun e w' => e = .returned (.tuple #[.agg #[.int .i64 (wh (wval (u + v))), .int .u64 (wl (wval (u + v)))], .bool (wfit (u + v))]) ∧ Kept w w' := by
  obtain ⟨eu, a0, a1⟩ := wv u
  obtain ⟨ev, b0, b1⟩ := wv v
  have A0 : -9223372036854775808 ≤ wh u := (by unfold wh; omega)
  have B0 : -9223372036854775808 ≤ wh v := (by unfold wh; omega)
  have A1 : wh u ≤ 9223372036854775807 := (by unfold wh; omega)
  have B1 : wh v ≤ 9223372036854775807 := (by unfold wh; omega)
  generalize wh u = A at *; generalize wl u = a at *; generalize wh v = B at *; generalize wl v = b at *
  obtain ⟨A_, hA⟩ : ∃ A_, IntKind.u64.wrap A = A_ := ⟨_, rfl⟩
  obtain ⟨B_, hB⟩ : ∃ B_, IntKind.u64.wrap B = B_ := ⟨_, rfl⟩
  have kA : A_ = A % 18446744073709551616 := by rw [← hA, IntKind.wrap_u64]
  have kB : B_ = B % 18446744073709551616 := by rw [← hB, IntKind.wrap_u64]
  obtain ⟨L, hL⟩ : ∃ L, IntKind.u64.wrap (a + b) = L := ⟨_, rfl⟩
  obtain ⟨H0, hH0⟩ : ∃ H0, IntKind.u64.wrap (A_ + B_) = H0 := ⟨_, rfl⟩
  have kL : L = (a + b) % 18446744073709551616 := by rw [← hL, IntKind.wrap_u64]
  have kH0 : H0 = (A_ + B_) % 18446744073709551616 := by rw [← hH0, IntKind.wrap_u64]
  have e1 : L = wl (u + v) := by unfold wl; omega
  by_cases cA : A < 0 <;> by_cases cB : B < 0 <;> by_cases cc : L < a
  · have kA2 : A_ = A + 18446744073709551616 := by omega
    have kB2 : B_ = B + 18446744073709551616 := by omega
    have kL2 : L = a + b - 18446744073709551616 := by omega
    have kH2 : H0 = A_ + B_ ∨ H0 = A_ + B_ - 18446744073709551616 := by omega
    have kz : u + v = (A + B + 1) * 18446744073709551616 + L := by omega
    have e2' : wh (u + v) = A + B + 1 := by unfold wh; omega
    obtain ⟨H, hH⟩ : ∃ H, IntKind.u64.wrap (H0 + 1) = H := ⟨_, rfl⟩
    have kH : H = (H0 + 1) % 18446744073709551616 := by rw [← hH, IntKind.wrap_u64]
    obtain ⟨S, hS⟩ : ∃ S, wrap64 H = S := ⟨_, rfl⟩
    have kS : (H < 9223372036854775808 ∧ S = H) ∨ (9223372036854775808 ≤ H ∧ S = H - 18446744073709551616) := by rw [← hS]; unfold wrap64; omega
    have h0 : 0 ≤ H := by omega
    have h1 : H ≤ 18446744073709551615 := by omega
    by_cases g : S < 0
    · have e2 : S = wh (u + v) := by rw [e2']; omega
      have e3 := wfit_yes (u := u + v) (by omega) (by omega)
      rw [e3.2, e3.1]
      have E := Lib.hid (And.intro e2 e1)
      clear e2 e3
      clear e1 e2' kz kL kH0 kH kA kB kA2 kB2 kL2 kH2 eu ev kS h0 h1
      go_enter Try.func56, Try.ntmps56
      go_wp2_with fail
      all_goals exact bodyPost_ret (v := .tuple #[.agg #[.int .i64 S, .int .u64 L], .bool true]) (by first | (simp [results, Try.results56, go_sem]; done) | (simp (maxDischargeDepth := 7) [results, Try.results56, go_sem, *]; done)) rfl ⟨agg2b E.out.1 E.out.2 rfl, (by repeat (first | with_reducible exact Kept.refl _ | with_reducible assumption | with_reducible refine Kept.setCell ?_ (by first | (simp; done) | (simp; omega) | omega) _ | with_reducible refine Kept.alloc ?_ _ | with_reducible refine Kept.drewN ?_ _ | with_reducible refine Kept.drew ?_ | with_reducible refine Kept.trans ?_ (by with_reducible assumption) | with_reducible refine Kept.dr ?_ (by with_reducible assumption)))⟩
    · have f0 : 0 ≤ S := by omega
      have e3 := wfit_no (u := u + v) (by omega)
      rw [e3.2, e3.1]
      clear e3
      clear e1 e2' kz kL kH0 kH kA kB kA2 kB2 kL2 kH2 eu ev kS h0 h1
      go_enter Try.func56, Try.ntmps56
      go_wp2_with fail
      all_goals exact bodyPost_ret (v := .tuple #[.agg #[.int .i64 0, .int .u64 0], .bool false]) (by first | (simp [results, Try.results56, go_sem]; done) | (simp (maxDischargeDepth := 7) [results, Try.results56, go_sem, *]; done)) rfl ⟨rfl, (by repeat (first | with_reducible exact Kept.refl _ | with_reducible assumption | with_reducible refine Kept.setCell ?_ (by first | (simp; done) | (simp; omega) | omega) _ | with_reducible refine Kept.alloc ?_ _ | with_reducible refine Kept.drewN ?_ _ | with_reducible refine Kept.drew ?_ | with_reducible refine Kept.trans ?_ (by with_reducible assumption) | with_reducible refine Kept.dr ?_ (by with_reducible assumption)))⟩
  · have kA2 : A_ = A + 18446744073709551616 := by omega
    have kB2 : B_ = B + 18446744073709551616 := by omega
    have kL2 : L = a + b := by omega
    have kH2 : H0 = A_ + B_ ∨ H0 = A_ + B_ - 18446744073709551616 := by omega
    have kz : u + v = (A + B + 0) * 18446744073709551616 + L := by omega
    have e2' : wh (u + v) = A + B + 0 := by unfold wh; omega
    obtain ⟨H, hH⟩ : ∃ H, H0 = H := ⟨_, rfl⟩
    rw [hH] at hH0
    have kH : H = H0 := hH.symm
    obtain ⟨S, hS⟩ : ∃ S, wrap64 H = S := ⟨_, rfl⟩
    have kS : (H < 9223372036854775808 ∧ S = H) ∨ (9223372036854775808 ≤ H ∧ S = H - 18446744073709551616) := by rw [← hS]; unfold wrap64; omega
    have h0 : 0 ≤ H := by omega
    have h1 : H ≤ 18446744073709551615 := by omega
    by_cases g : S < 0
    · have e2 : S = wh (u + v) := by rw [e2']; omega
      have e3 := wfit_yes (u := u + v) (by omega) (by omega)
      rw [e3.2, e3.1]
      have E := Lib.hid (And.intro e2 e1)
      clear e2 e3
      clear e1 e2' kz kL kH0 kH kA kB kA2 kB2 kL2 kH2 eu ev kS h0 h1 hH
      go_enter Try.func56, Try.ntmps56
      go_wp2_with fail
      all_goals exact bodyPost_ret (v := .tuple #[.agg #[.int .i64 S, .int .u64 L], .bool true]) (by first | (simp [results, Try.results56, go_sem]; done) | (simp (maxDischargeDepth := 7) [results, Try.results56, go_sem, *]; done)) rfl ⟨agg2b E.out.1 E.out.2 rfl, (by repeat (first | with_reducible exact Kept.refl _ | with_reducible assumption | with_reducible refine Kept.setCell ?_ (by first | (simp; done) | (simp; omega) | omega) _ | with_reducible refine Kept.alloc ?_ _ | with_reducible refine Kept.drewN ?_ _ | with_reducible refine Kept.drew ?_ | with_reducible refine Kept.trans ?_ (by with_reducible assumption) | with_reducible refine Kept.dr ?_ (by with_reducible assumption)))⟩
    · have f0 : 0 ≤ S := by omega
      have e3 := wfit_no (u := u + v) (by omega)
      rw [e3.2, e3.1]
      clear e3
      clear e1 e2' kz kL kH0 kH kA kB kA2 kB2 kL2 kH2 eu ev kS h0 h1 hH
      go_enter Try.func56, Try.ntmps56
      go_wp2_with fail
      all_goals exact bodyPost_ret (v := .tuple #[.agg #[.int .i64 0, .int .u64 0], .bool false]) (by first | (simp [results, Try.results56, go_sem]; done) | (simp (maxDischargeDepth := 7) [results, Try.results56, go_sem, *]; done)) rfl ⟨rfl, (by repeat (first | with_reducible exact Kept.refl _ | with_reducible assumption | with_reducible refine Kept.setCell ?_ (by first | (simp; done) | (simp; omega) | omega) _ | with_reducible refine Kept.alloc ?_ _ | with_reducible refine Kept.drewN ?_ _ | with_reducible refine Kept.drew ?_ | with_reducible refine Kept.trans ?_ (by with_reducible assumption) | with_reducible refine Kept.dr ?_ (by with_reducible assumption)))⟩
  · have kA2 : A_ = A + 18446744073709551616 := by omega
    have kB2 : B_ = B := by omega
    have kL2 : L = a + b - 18446744073709551616 := by omega
    have kH2 : H0 = A_ + B_ ∨ H0 = A_ + B_ - 18446744073709551616 := by omega
    have kz : u + v = (A + B + 1) * 18446744073709551616 + L := by omega
    have e2' : wh (u + v) = A + B + 1 := by unfold wh; omega
    obtain ⟨H, hH⟩ : ∃ H, IntKind.u64.wrap (H0 + 1) = H := ⟨_, rfl⟩
    have kH : H = (H0 + 1) % 18446744073709551616 := by rw [← hH, IntKind.wrap_u64]
    obtain ⟨S, hS⟩ : ∃ S, wrap64 H = S := ⟨_, rfl⟩
    have kS : (H < 9223372036854775808 ∧ S = H) ∨ (9223372036854775808 ≤ H ∧ S = H - 18446744073709551616) := by rw [← hS]; unfold wrap64; omega
    have h0 : 0 ≤ H := by omega
    have h1 : H ≤ 18446744073709551615 := by omega
    have e2 : S = wh (u + v) := by rw [e2']; omega
    have e3 := wfit_yes (u := u + v) (by omega) (by omega)
    rw [e3.2, e3.1]
    have E := Lib.hid (And.intro e2 e1)
    clear e2 e3
    clear e1 e2' kz kL kH0 kH kA kB kA2 kB2 kL2 kH2 eu ev kS h0 h1
    go_enter Try.func56, Try.ntmps56
    go_wp2_with fail
    all_goals exact bodyPost_ret (v := .tuple #[.agg #[.int .i64 S, .int .u64 L], .bool true]) (by first | (simp [results, Try.results56, go_sem]; done) | (simp (maxDischargeDepth := 7) [results, Try.results56, go_sem, *]; done)) rfl ⟨agg2b E.out.1 E.out.2 rfl, (by repeat (first | with_reducible exact Kept.refl _ | with_reducible assumption | with_reducible refine Kept.setCell ?_ (by first | (simp; done) | (simp; omega) | omega) _ | with_reducible refine Kept.alloc ?_ _ | with_reducible refine Kept.drewN ?_ _ | with_reducible refine Kept.drew ?_ | with_reducible refine Kept.trans ?_ (by with_reducible assumption) | with_reducible refine Kept.dr ?_ (by with_reducible assumption)))⟩
  · have kA2 : A_ = A + 18446744073709551616 := by omega
    have kB2 : B_ = B := by omega
    have kL2 : L = a + b := by omega
    have kH2 : H0 = A_ + B_ ∨ H0 = A_ + B_ - 18446744073709551616 := by omega
    have kz : u + v = (A + B + 0) * 18446744073709551616 + L := by omega
    have e2' : wh (u + v) = A + B + 0 := by unfold wh; omega
    obtain ⟨H, hH⟩ : ∃ H, H0 = H := ⟨_, rfl⟩
    rw [hH] at hH0
    have kH : H = H0 := hH.symm
    obtain ⟨S, hS⟩ : ∃ S, wrap64 H = S := ⟨_, rfl⟩
    have kS : (H < 9223372036854775808 ∧ S = H) ∨ (9223372036854775808 ≤ H ∧ S = H - 18446744073709551616) := by rw [← hS]; unfold wrap64; omega
    have h0 : 0 ≤ H := by omega
    have h1 : H ≤ 18446744073709551615 := by omega
    have e2 : S = wh (u + v) := by rw [e2']; omega
    have e3 := wfit_yes (u := u + v) (by omega) (by omega)
    rw [e3.2, e3.1]
    have E := Lib.hid (And.intro e2 e1)
    clear e2 e3
    clear e1 e2' kz kL kH0 kH kA kB kA2 kB2 kL2 kH2 eu ev kS h0 h1 hH
    go_enter Try.func56, Try.ntmps56
    go_wp2_with fail
    all_goals exact bodyPost_ret (v := .tuple #[.agg #[.int .i64 S, .int .u64 L], .bool true]) (by first | (simp [results, Try.results56, go_sem]; done) | (simp (maxDischargeDepth := 7) [results, Try.results56, go_sem, *]; done)) rfl ⟨agg2b E.out.1 E.out.2 rfl, (by repeat (first | with_reducible exact Kept.refl _ | with_reducible assumption | with_reducible refine Kept.setCell ?_ (by first | (simp; done) | (simp; omega) | omega) _ | with_reducible refine Kept.alloc ?_ _ | with_reducible refine Kept.drewN ?_ _ | with_reducible refine Kept.drew ?_ | with_reducible refine Kept.trans ?_ (by with_reducible assumption) | with_reducible refine Kept.dr ?_ (by with_reducible assumption)))⟩
  · have kA2 : A_ = A := by omega
    have kB2 : B_ = B + 18446744073709551616 := by omega
    have kL2 : L = a + b - 18446744073709551616 := by omega
    have kH2 : H0 = A_ + B_ ∨ H0 = A_ + B_ - 18446744073709551616 := by omega
    have kz : u + v = (A + B + 1) * 18446744073709551616 + L := by omega
    have e2' : wh (u + v) = A + B + 1 := by unfold wh; omega
    obtain ⟨H, hH⟩ : ∃ H, IntKind.u64.wrap (H0 + 1) = H := ⟨_, rfl⟩
    have kH : H = (H0 + 1) % 18446744073709551616 := by rw [← hH, IntKind.wrap_u64]
    obtain ⟨S, hS⟩ : ∃ S, wrap64 H = S := ⟨_, rfl⟩
    have kS : (H < 9223372036854775808 ∧ S = H) ∨ (9223372036854775808 ≤ H ∧ S = H - 18446744073709551616) := by rw [← hS]; unfold wrap64; omega
    have h0 : 0 ≤ H := by omega
    have h1 : H ≤ 18446744073709551615 := by omega
    have e2 : S = wh (u + v) := by rw [e2']; omega
    have e3 := wfit_yes (u := u + v) (by omega) (by omega)
    rw [e3.2, e3.1]
    have E := Lib.hid (And.intro e2 e1)
    clear e2 e3
    clear e1 e2' kz kL kH0 kH kA kB kA2 kB2 kL2 kH2 eu ev kS h0 h1
    go_enter Try.func56, Try.ntmps56
    go_wp2_with fail
    all_goals exact bodyPost_ret (v := .tuple #[.agg #[.int .i64 S, .int .u64 L], .bool true]) (by first | (simp [results, Try.results56, go_sem]; done) | (simp (maxDischargeDepth := 7) [results, Try.results56, go_sem, *]; done)) rfl ⟨agg2b E.out.1 E.out.2 rfl, (by repeat (first | with_reducible exact Kept.refl _ | with_reducible assumption | with_reducible refine Kept.setCell ?_ (by first | (simp; done) | (simp; omega) | omega) _ | with_reducible refine Kept.alloc ?_ _ | with_reducible refine Kept.drewN ?_ _ | with_reducible refine Kept.drew ?_ | with_reducible refine Kept.trans ?_ (by with_reducible assumption) | with_reducible refine Kept.dr ?_ (by with_reducible assumption)))⟩
  · have kA2 : A_ = A := by omega
    have kB2 : B_ = B + 18446744073709551616 := by omega
    have kL2 : L = a + b := by omega
    have kH2 : H0 = A_ + B_ ∨ H0 = A_ + B_ - 18446744073709551616 := by omega
    have kz : u + v = (A + B + 0) * 18446744073709551616 + L := by omega
    have e2' : wh (u + v) = A + B + 0 := by unfold wh; omega
    obtain ⟨H, hH⟩ : ∃ H, H0 = H := ⟨_, rfl⟩
    rw [hH] at hH0
    have kH : H = H0 := hH.symm
    obtain ⟨S, hS⟩ : ∃ S, wrap64 H = S := ⟨_, rfl⟩
    have kS : (H < 9223372036854775808 ∧ S = H) ∨ (9223372036854775808 ≤ H ∧ S = H - 18446744073709551616) := by rw [← hS]; unfold wrap64; omega
    have h0 : 0 ≤ H := by omega
    have h1 : H ≤ 18446744073709551615 := by omega
    have e2 : S = wh (u + v) := by rw [e2']; omega
    have e3 := wfit_yes (u := u + v) (by omega) (by omega)
    rw [e3.2, e3.1]
    have E := Lib.hid (And.intro e2 e1)
    clear e2 e3
    clear e1 e2' kz kL kH0 kH kA kB kA2 kB2 kL2 kH2 eu ev kS h0 h1 hH
    go_enter Try.func56, Try.ntmps56
    go_wp2_with fail
    all_goals exact bodyPost_ret (v := .tuple #[.agg #[.int .i64 S, .int .u64 L], .bool true]) (by first | (simp [results, Try.results56, go_sem]; done) | (simp (maxDischargeDepth := 7) [results, Try.results56, go_sem, *]; done)) rfl ⟨agg2b E.out.1 E.out.2 rfl, (by repeat (first | with_reducible exact Kept.refl _ | with_reducible assumption | with_reducible refine Kept.setCell ?_ (by first | (simp; done) | (simp; omega) | omega) _ | with_reducible refine Kept.alloc ?_ _ | with_reducible refine Kept.drewN ?_ _ | with_reducible refine Kept.drew ?_ | with_reducible refine Kept.trans ?_ (by with_reducible assumption) | with_reducible refine Kept.dr ?_ (by with_reducible assumption)))⟩
  · have kA2 : A_ = A := by omega
    have kB2 : B_ = B := by omega
    have kL2 : L = a + b - 18446744073709551616 := by omega
    have kH2 : H0 = A_ + B_ ∨ H0 = A_ + B_ - 18446744073709551616 := by omega
    have kz : u + v = (A + B + 1) * 18446744073709551616 + L := by omega
    have e2' : wh (u + v) = A + B + 1 := by unfold wh; omega
    obtain ⟨H, hH⟩ : ∃ H, IntKind.u64.wrap (H0 + 1) = H := ⟨_, rfl⟩
    have kH : H = (H0 + 1) % 18446744073709551616 := by rw [← hH, IntKind.wrap_u64]
    obtain ⟨S, hS⟩ : ∃ S, wrap64 H = S := ⟨_, rfl⟩
    have kS : (H < 9223372036854775808 ∧ S = H) ∨ (9223372036854775808 ≤ H ∧ S = H - 18446744073709551616) := by rw [← hS]; unfold wrap64; omega
    have h0 : 0 ≤ H := by omega
    have h1 : H ≤ 18446744073709551615 := by omega
    by_cases g : S < 0
    · have e3 := wfit_no (u := u + v) (by omega)
      rw [e3.2, e3.1]
      clear e3
      clear e1 e2' kz kL kH0 kH kA kB kA2 kB2 kL2 kH2 eu ev kS h0 h1
      go_enter Try.func56, Try.ntmps56
      go_wp2_with fail
      all_goals exact bodyPost_ret (v := .tuple #[.agg #[.int .i64 0, .int .u64 0], .bool false]) (by first | (simp [results, Try.results56, go_sem]; done) | (simp (maxDischargeDepth := 7) [results, Try.results56, go_sem, *]; done)) rfl ⟨rfl, (by repeat (first | with_reducible exact Kept.refl _ | with_reducible assumption | with_reducible refine Kept.setCell ?_ (by first | (simp; done) | (simp; omega) | omega) _ | with_reducible refine Kept.alloc ?_ _ | with_reducible refine Kept.drewN ?_ _ | with_reducible refine Kept.drew ?_ | with_reducible refine Kept.trans ?_ (by with_reducible assumption) | with_reducible refine Kept.dr ?_ (by with_reducible assumption)))⟩
    · have f0 : 0 ≤ S := by omega
      have e2 : S = wh (u + v) := by rw [e2']; omega
      have e3 := wfit_yes (u := u + v) (by omega) (by omega)
      rw [e3.2, e3.1]
      have E := Lib.hid (And.intro e2 e1)
      clear e2 e3
      clear e1 e2' kz kL kH0 kH kA kB kA2 kB2 kL2 kH2 eu ev kS h0 h1
      go_enter Try.func56, Try.ntmps56
      go_wp2_with fail
      all_goals exact bodyPost_ret (v := .tuple #[.agg #[.int .i64 S, .int .u64 L], .bool true]) (by first | (simp [results, Try.results56, go_sem]; done) | (simp (maxDischargeDepth := 7) [results, Try.results56, go_sem, *]; done)) rfl ⟨agg2b E.out.1 E.out.2 rfl, (by repeat (first | with_reducible exact Kept.refl _ | with_reducible assumption | with_reducible refine Kept.setCell ?_ (by first | (simp; done) | (simp; omega) | omega) _ | with_reducible refine Kept.alloc ?_ _ | with_reducible refine Kept.drewN ?_ _ | with_reducible refine Kept.drew ?_ | with_reducible refine Kept.trans ?_ (by with_reducible assumption) | with_reducible refine Kept.dr ?_ (by with_reducible assumption)))⟩
  · have kA2 : A_ = A := by omega
    have kB2 : B_ = B := by omega
    have kL2 : L = a + b := by omega
    have kH2 : H0 = A_ + B_ ∨ H0 = A_ + B_ - 18446744073709551616 := by omega
    have kz : u + v = (A + B + 0) * 18446744073709551616 + L := by omega
    have e2' : wh (u + v) = A + B + 0 := by unfold wh; omega
    obtain ⟨H, hH⟩ : ∃ H, H0 = H := ⟨_, rfl⟩
    rw [hH] at hH0
    have kH : H = H0 := hH.symm
    obtain ⟨S, hS⟩ : ∃ S, wrap64 H = S := ⟨_, rfl⟩
    have kS : (H < 9223372036854775808 ∧ S = H) ∨ (9223372036854775808 ≤ H ∧ S = H - 18446744073709551616) := by rw [← hS]; unfold wrap64; omega
    have h0 : 0 ≤ H := by omega
    have h1 : H ≤ 18446744073709551615 := by omega
    by_cases g : S < 0
    · have e3 := wfit_no (u := u + v) (by omega)
      rw [e3.2, e3.1]
      clear e3
      clear e1 e2' kz kL kH0 kH kA kB kA2 kB2 kL2 kH2 eu ev kS h0 h1 hH
      go_enter Try.func56, Try.ntmps56
      go_wp2_with fail
      all_goals exact bodyPost_ret (v := .tuple #[.agg #[.int .i64 0, .int .u64 0], .bool false]) (by first | (simp [results, Try.results56, go_sem]; done) | (simp (maxDischargeDepth := 7) [results, Try.results56, go_sem, *]; done)) rfl ⟨rfl, (by repeat (first | with_reducible exact Kept.refl _ | with_reducible assumption | with_reducible refine Kept.setCell ?_ (by first | (simp; done) | (simp; omega) | omega) _ | with_reducible refine Kept.alloc ?_ _ | with_reducible refine Kept.drewN ?_ _ | with_reducible refine Kept.drew ?_ | with_reducible refine Kept.trans ?_ (by with_reducible assumption) | with_reducible refine Kept.dr ?_ (by with_reducible assumption)))⟩
    · have f0 : 0 ≤ S := by omega
      have e2 : S = wh (u + v) := by rw [e2']; omega
      have e3 := wfit_yes (u := u + v) (by omega) (by omega)
      rw [e3.2, e3.1]
      have E := Lib.hid (And.intro e2 e1)
      clear e2 e3
      clear e1 e2' kz kL kH0 kH kA kB kA2 kB2 kL2 kH2 eu ev kS h0 h1 hH
      go_enter Try.func56, Try.ntmps56
      go_wp2_with fail
      all_goals exact bodyPost_ret (v := .tuple #[.agg #[.int .i64 S, .int .u64 L], .bool true]) (by first | (simp [results, Try.results56, go_sem]; done) | (simp (maxDischargeDepth := 7) [results, Try.results56, go_sem, *]; done)) rfl ⟨agg2b E.out.1 E.out.2 rfl, (by repeat (first | with_reducible exact Kept.refl _ | with_reducible assumption | with_reducible refine Kept.setCell ?_ (by first | (simp; done) | (simp; omega) | omega) _ | with_reducible refine Kept.alloc ?_ _ | with_reducible refine Kept.drewN ?_ _ | with_reducible refine Kept.drew ?_ | with_reducible refine Kept.trans ?_ (by with_reducible assumption) | with_reducible refine Kept.dr ?_ (by with_reducible assumption)))⟩
set_option maxHeartbeats 2000000 in
set_option maxRecDepth 100000 in
theorem refw_sub_w (u v : Int) (u0 : -170141183460469231731687303715884105728 ≤ u) (u1 : u < 170141183460469231731687303715884105728) (v0 : -170141183460469231731687303715884105728 ≤ v) (v1 : v < 170141183460469231731687303715884105728) (w : World) : Calls Try.prog 60 #[.agg #[.int .i64 (wh (u)), .int .u64 (wl (u))], .agg #[.int .i64 (wh (v)), .int .u64 (wl (v))]] w fun e w' => e = .returned (.tuple #[.agg #[.int .i64 (wh (wval (u - v))), .int .u64 (wl (wval (u - v)))], .bool (wfit (u - v))]) ∧ Kept w w' := by
  obtain ⟨eu, a0, a1⟩ := wv u
  obtain ⟨ev, b0, b1⟩ := wv v
  have A0 : -9223372036854775808 ≤ wh u := (by unfold wh; omega)
  have B0 : -9223372036854775808 ≤ wh v := (by unfold wh; omega)
  have A1 : wh u ≤ 9223372036854775807 := (by unfold wh; omega)
  have B1 : wh v ≤ 9223372036854775807 := (by unfold wh; omega)
  generalize wh u = A at *; generalize wl u = a at *; generalize wh v = B at *; generalize wl v = b at *
  obtain ⟨A_, hA⟩ : ∃ A_, IntKind.u64.wrap A = A_ := ⟨_, rfl⟩
  obtain ⟨B_, hB⟩ : ∃ B_, IntKind.u64.wrap B = B_ := ⟨_, rfl⟩
  have kA : A_ = A % 18446744073709551616 := by rw [← hA, IntKind.wrap_u64]
  have kB : B_ = B % 18446744073709551616 := by rw [← hB, IntKind.wrap_u64]
  obtain ⟨L, hL⟩ : ∃ L, IntKind.u64.wrap (a - b) = L := ⟨_, rfl⟩
  obtain ⟨H0, hH0⟩ : ∃ H0, IntKind.u64.wrap (A_ - B_) = H0 := ⟨_, rfl⟩
  have kL : L = (a - b) % 18446744073709551616 := by rw [← hL, IntKind.wrap_u64]
  have kH0 : H0 = (A_ - B_) % 18446744073709551616 := by rw [← hH0, IntKind.wrap_u64]
  have e1 : L = wl (u - v) := by unfold wl; omega
  by_cases cA : A < 0 <;> by_cases cB : B < 0 <;> by_cases cc : a < b
  · have kA2 : A_ = A + 18446744073709551616 := by omega
    have kB2 : B_ = B + 18446744073709551616 := by omega
    have kL2 : L = a - b + 18446744073709551616 := by omega
    have kH2 : H0 = A_ - B_ ∨ H0 = A_ - B_ + 18446744073709551616 := by omega
    have kz : u - v = (A - B - 1) * 18446744073709551616 + L := by omega
    have e2' : wh (u - v) = A - B - 1 := by unfold wh; omega
    obtain ⟨H, hH⟩ : ∃ H, IntKind.u64.wrap (H0 - 1) = H := ⟨_, rfl⟩
    have kH : H = (H0 - 1) % 18446744073709551616 := by rw [← hH, IntKind.wrap_u64]
    obtain ⟨S, hS⟩ : ∃ S, wrap64 H = S := ⟨_, rfl⟩
    have kS : (H < 9223372036854775808 ∧ S = H) ∨ (9223372036854775808 ≤ H ∧ S = H - 18446744073709551616) := by rw [← hS]; unfold wrap64; omega
    have h0 : 0 ≤ H := by omega
    have h1 : H ≤ 18446744073709551615 := by omega
    have e2 : S = wh (u - v) := by rw [e2']; omega
    have e3 := wfit_yes (u := u - v) (by omega) (by omega)
    rw [e3.2, e3.1]
    have E := Lib.hid (And.intro e2 e1)
    clear e2 e3
    clear e1 e2' kz kL kH0 kH kA kB kA2 kB2 kL2 kH2 eu ev kS h0 h1
    go_enter Try.func60, Try.ntmps60
    go_wp2_with fail
    all_goals exact bodyPost_ret (v := .tuple #[.agg #[.int .i64 S, .int .u64 L], .bool true]) (by first | (simp [results, Try.results60, go_sem]; done) | (simp (maxDischargeDepth := 7) [results, Try.results60, go_sem, *]; done)) rfl ⟨agg2b E.out.1 E.out.2 rfl, (by repeat (first | with_reducible exact Kept.refl _ | with_reducible assumption | with_reducible refine Kept.setCell ?_ (by first | (simp; done) | (simp; omega) | omega) _ | with_reducible refine Kept.alloc ?_ _ | with_reducible refine Kept.drewN ?_ _ | with_reducible refine Kept.drew ?_ | with_reducible refine Kept.trans ?_ (by with_reducible assumption) | with_reducible refine Kept.dr ?_ (by with_reducible assumption)))⟩
  · have kA2 : A_ = A + 18446744073709551616 := by omega
    have kB2 : B_ = B + 18446744073709551616 := by omega
    have kL2 : L = a - b := by omega
    have kH2 : H0 = A_ - B_ ∨ H0 = A_ - B_ + 18446744073709551616 := by omega
    have kz : u - v = (A - B + 0) * 18446744073709551616 + L := by omega
    have e2' : wh (u - v) = A - B + 0 := by unfold wh; omega
    obtain ⟨H, hH⟩ : ∃ H, H0 = H := ⟨_, rfl⟩
    rw [hH] at hH0
    have kH : H = H0 := hH.symm
    obtain ⟨S, hS⟩ : ∃ S, wrap64 H = S := ⟨_, rfl⟩
    have kS : (H < 9223372036854775808 ∧ S = H) ∨ (9223372036854775808 ≤ H ∧ S = H - 18446744073709551616) := by rw [← hS]; unfold wrap64; omega
    have h0 : 0 ≤ H := by omega
    have h1 : H ≤ 18446744073709551615 := by omega
    have e2 : S = wh (u - v) := by rw [e2']; omega
    have e3 := wfit_yes (u := u - v) (by omega) (by omega)
    rw [e3.2, e3.1]
    have E := Lib.hid (And.intro e2 e1)
    clear e2 e3
    clear e1 e2' kz kL kH0 kH kA kB kA2 kB2 kL2 kH2 eu ev kS h0 h1 hH
    go_enter Try.func60, Try.ntmps60
    go_wp2_with fail
    all_goals exact bodyPost_ret (v := .tuple #[.agg #[.int .i64 S, .int .u64 L], .bool true]) (by first | (simp [results, Try.results60, go_sem]; done) | (simp (maxDischargeDepth := 7) [results, Try.results60, go_sem, *]; done)) rfl ⟨agg2b E.out.1 E.out.2 rfl, (by repeat (first | with_reducible exact Kept.refl _ | with_reducible assumption | with_reducible refine Kept.setCell ?_ (by first | (simp; done) | (simp; omega) | omega) _ | with_reducible refine Kept.alloc ?_ _ | with_reducible refine Kept.drewN ?_ _ | with_reducible refine Kept.drew ?_ | with_reducible refine Kept.trans ?_ (by with_reducible assumption) | with_reducible refine Kept.dr ?_ (by with_reducible assumption)))⟩
  · have kA2 : A_ = A + 18446744073709551616 := by omega
    have kB2 : B_ = B := by omega
    have kL2 : L = a - b + 18446744073709551616 := by omega
    have kH2 : H0 = A_ - B_ ∨ H0 = A_ - B_ + 18446744073709551616 := by omega
    have kz : u - v = (A - B - 1) * 18446744073709551616 + L := by omega
    have e2' : wh (u - v) = A - B - 1 := by unfold wh; omega
    obtain ⟨H, hH⟩ : ∃ H, IntKind.u64.wrap (H0 - 1) = H := ⟨_, rfl⟩
    have kH : H = (H0 - 1) % 18446744073709551616 := by rw [← hH, IntKind.wrap_u64]
    obtain ⟨S, hS⟩ : ∃ S, wrap64 H = S := ⟨_, rfl⟩
    have kS : (H < 9223372036854775808 ∧ S = H) ∨ (9223372036854775808 ≤ H ∧ S = H - 18446744073709551616) := by rw [← hS]; unfold wrap64; omega
    have h0 : 0 ≤ H := by omega
    have h1 : H ≤ 18446744073709551615 := by omega
    by_cases g : S < 0
    · have e2 : S = wh (u - v) := by rw [e2']; omega
      have e3 := wfit_yes (u := u - v) (by omega) (by omega)
      rw [e3.2, e3.1]
      have E := Lib.hid (And.intro e2 e1)
      clear e2 e3
      clear e1 e2' kz kL kH0 kH kA kB kA2 kB2 kL2 kH2 eu ev kS h0 h1
      go_enter Try.func60, Try.ntmps60
      go_wp2_with fail
      all_goals exact bodyPost_ret (v := .tuple #[.agg #[.int .i64 S, .int .u64 L], .bool true]) (by first | (simp [results, Try.results60, go_sem]; done) | (simp (maxDischargeDepth := 7) [results, Try.results60, go_sem, *]; done)) rfl ⟨agg2b E.out.1 E.out.2 rfl, (by repeat (first | with_reducible exact Kept.refl _ | with_reducible assumption | with_reducible refine Kept.setCell ?_ (by first | (simp; done) | (simp; omega) | omega) _ | with_reducible refine Kept.alloc ?_ _ | with_reducible refine Kept.drewN ?_ _ | with_reducible refine Kept.drew ?_ | with_reducible refine Kept.trans ?_ (by with_reducible assumption) | with_reducible refine Kept.dr ?_ (by with_reducible assumption)))⟩
    · have f0 : 0 ≤ S := by omega
      have e3 := wfit_no (u := u - v) (by omega)
      rw [e3.2, e3.1]
      clear e3
      clear e1 e2' kz kL kH0 kH kA kB kA2 kB2 kL2 kH2 eu ev kS h0 h1
      go_enter Try.func60, Try.ntmps60
      go_wp2_with fail
      all_goals exact bodyPost_ret (v := .tuple #[.agg #[.int .i64 0, .int .u64 0], .bool false]) (by first | (simp [results, Try.results60, go_sem]; done) | (simp (maxDischargeDepth := 7) [results, Try.results60, go_sem, *]; done)) rfl ⟨rfl, (by repeat (first | with_reducible exact Kept.refl _ | with_reducible assumption | with_reducible refine Kept.setCell ?_ (by first | (simp; done) | (simp; omega) | omega) _ | with_reducible refine Kept.alloc ?_ _ | with_reducible refine Kept.drewN ?_ _ | with_reducible refine Kept.drew ?_ | with_reducible refine Kept.trans ?_ (by with_reducible assumption) | with_reducible refine Kept.dr ?_ (by with_reducible assumption)))⟩
  · have kA2 : A_ = A + 18446744073709551616 := by omega
    have kB2 : B_ = B := by omega
    have kL2 : L = a - b := by omega
    have kH2 : H0 = A_ - B_ ∨ H0 = A_ - B_ + 18446744073709551616 := by omega
    have kz : u - v = (A - B + 0) * 18446744073709551616 + L := by omega
    have e2' : wh (u - v) = A - B + 0 := by unfold wh; omega
    obtain ⟨H, hH⟩ : ∃ H, H0 = H := ⟨_, rfl⟩
    rw [hH] at hH0
    have kH : H = H0 := hH.symm
    obtain ⟨S, hS⟩ : ∃ S, wrap64 H = S := ⟨_, rfl⟩
    have kS : (H < 9223372036854775808 ∧ S = H) ∨ (9223372036854775808 ≤ H ∧ S = H - 18446744073709551616) := by rw [← hS]; unfold wrap64; omega
    have h0 : 0 ≤ H := by omega
    have h1 : H ≤ 18446744073709551615 := by omega
    by_cases g : S < 0
    · have e2 : S = wh (u - v) := by rw [e2']; omega
      have e3 := wfit_yes (u := u - v) (by omega) (by omega)
      rw [e3.2, e3.1]
      have E := Lib.hid (And.intro e2 e1)
      clear e2 e3
      clear e1 e2' kz kL kH0 kH kA kB kA2 kB2 kL2 kH2 eu ev kS h0 h1 hH
      go_enter Try.func60, Try.ntmps60
      go_wp2_with fail
      all_goals exact bodyPost_ret (v := .tuple #[.agg #[.int .i64 S, .int .u64 L], .bool true]) (by first | (simp [results, Try.results60, go_sem]; done) | (simp (maxDischargeDepth := 7) [results, Try.results60, go_sem, *]; done)) rfl ⟨agg2b E.out.1 E.out.2 rfl, (by repeat (first | with_reducible exact Kept.refl _ | with_reducible assumption | with_reducible refine Kept.setCell ?_ (by first | (simp; done) | (simp; omega) | omega) _ | with_reducible refine Kept.alloc ?_ _ | with_reducible refine Kept.drewN ?_ _ | with_reducible refine Kept.drew ?_ | with_reducible refine Kept.trans ?_ (by with_reducible assumption) | with_reducible refine Kept.dr ?_ (by with_reducible assumption)))⟩
    · have f0 : 0 ≤ S := by omega
      have e3 := wfit_no (u := u - v) (by omega)
      rw [e3.2, e3.1]
      clear e3
      clear e1 e2' kz kL kH0 kH kA kB kA2 kB2 kL2 kH2 eu ev kS h0 h1 hH
      go_enter Try.func60, Try.ntmps60
      go_wp2_with fail
      all_goals exact bodyPost_ret (v := .tuple #[.agg #[.int .i64 0, .int .u64 0], .bool false]) (by first | (simp [results, Try.results60, go_sem]; done) | (simp (maxDischargeDepth := 7) [results, Try.results60, go_sem, *]; done)) rfl ⟨rfl, (by repeat (first | with_reducible exact Kept.refl _ | with_reducible assumption | with_reducible refine Kept.setCell ?_ (by first | (simp; done) | (simp; omega) | omega) _ | with_reducible refine Kept.alloc ?_ _ | with_reducible refine Kept.drewN ?_ _ | with_reducible refine Kept.drew ?_ | with_reducible refine Kept.trans ?_ (by with_reducible assumption) | with_reducible refine Kept.dr ?_ (by with_reducible assumption)))⟩
  · have kA2 : A_ = A := by omega
    have kB2 : B_ = B + 18446744073709551616 := by omega
    have kL2 : L = a - b + 18446744073709551616 := by omega
    have kH2 : H0 = A_ - B_ ∨ H0 = A_ - B_ + 18446744073709551616 := by omega
    have kz : u - v = (A - B - 1) * 18446744073709551616 + L := by omega
    have e2' : wh (u - v) = A - B - 1 := by unfold wh; omega
    obtain ⟨H, hH⟩ : ∃ H, IntKind.u64.wrap (H0 - 1) = H := ⟨_, rfl⟩
    have kH : H = (H0 - 1) % 18446744073709551616 := by rw [← hH, IntKind.wrap_u64]
    obtain ⟨S, hS⟩ : ∃ S, wrap64 H = S := ⟨_, rfl⟩
    have kS : (H < 9223372036854775808 ∧ S = H) ∨ (9223372036854775808 ≤ H ∧ S = H - 18446744073709551616) := by rw [← hS]; unfold wrap64; omega
    have h0 : 0 ≤ H := by omega
    have h1 : H ≤ 18446744073709551615 := by omega
    by_cases g : S < 0
    · have e3 := wfit_no (u := u - v) (by omega)
      rw [e3.2, e3.1]
      clear e3
      clear e1 e2' kz kL kH0 kH kA kB kA2 kB2 kL2 kH2 eu ev kS h0 h1
      go_enter Try.func60, Try.ntmps60
      go_wp2_with fail
      all_goals exact bodyPost_ret (v := .tuple #[.agg #[.int .i64 0, .int .u64 0], .bool false]) (by first | (simp [results, Try.results60, go_sem]; done) | (simp (maxDischargeDepth := 7) [results, Try.results60, go_sem, *]; done)) rfl ⟨rfl, (by repeat (first | with_reducible exact Kept.refl _ | with_reducible assumption | with_reducible refine Kept.setCell ?_ (by first | (simp; done) | (simp; omega) | omega) _ | with_reducible refine Kept.alloc ?_ _ | with_reducible refine Kept.drewN ?_ _ | with_reducible refine Kept.drew ?_ | with_reducible refine Kept.trans ?_ (by with_reducible assumption) | with_reducible refine Kept.dr ?_ (by with_reducible assumption)))⟩
    · have f0 : 0 ≤ S := by omega
      have e2 : S = wh (u - v) := by rw [e2']; omega
      have e3 := wfit_yes (u := u - v) (by omega) (by omega)
      rw [e3.2, e3.1]
      have E := Lib.hid (And.intro e2 e1)
      clear e2 e3
      clear e1 e2' kz kL kH0 kH kA kB kA2 kB2 kL2 kH2 eu ev kS h0 h1
      go_enter Try.func60, Try.ntmps60
      go_wp2_with fail
      all_goals exact bodyPost_ret (v := .tuple #[.agg #[.int .i64 S, .int .u64 L], .bool true]) (by first | (simp [results, Try.results60, go_sem]; done) | (simp (maxDischargeDepth := 7) [results, Try.results60, go_sem, *]; done)) rfl ⟨agg2b E.out.1 E.out.2 rfl, (by repeat (first | with_reducible exact Kept.refl _ | with_reducible assumption | with_reducible refine Kept.setCell ?_ (by first | (simp; done) | (simp; omega) | omega) _ | with_reducible refine Kept.alloc ?_ _ | with_reducible refine Kept.drewN ?_ _ | with_reducible refine Kept.drew ?_ | with_reducible refine Kept.trans ?_ (by with_reducible assumption) | with_reducible refine Kept.dr ?_ (by with_reducible assumption)))⟩
  · have kA2 : A_ = A := by omega
    have kB2 : B_ = B + 18446744073709551616 := by omega
    have kL2 : L = a - b := by omega
    have kH2 : H0 = A_ - B_ ∨ H0 = A_ - B_ + 18446744073709551616 := by omega
    have kz : u - v = (A - B + 0) * 18446744073709551616 + L := by omega
    have e2' : wh (u - v) = A - B + 0 := by unfold wh; omega
    obtain ⟨H, hH⟩ : ∃ H, H0 = H := ⟨_, rfl⟩
    rw [hH] at hH0
    have kH : H = H0 := hH.symm
    obtain ⟨S, hS⟩ : ∃ S, wrap64 H = S := ⟨_, rfl⟩
    have kS : (H < 9223372036854775808 ∧ S = H) ∨ (9223372036854775808 ≤ H ∧ S = H - 18446744073709551616) := by rw [← hS]; unfold wrap64; omega
    have h0 : 0 ≤ H := by omega
    have h1 : H ≤ 18446744073709551615 := by omega
    by_cases g : S < 0
    · have e3 := wfit_no (u := u - v) (by omega)
      rw [e3.2, e3.1]
      clear e3
      clear e1 e2' kz kL kH0 kH kA kB kA2 kB2 kL2 kH2 eu ev kS h0 h1 hH
      go_enter Try.func60, Try.ntmps60
      go_wp2_with fail
      all_goals exact bodyPost_ret (v := .tuple #[.agg #[.int .i64 0, .int .u64 0], .bool false]) (by first | (simp [results, Try.results60, go_sem]; done) | (simp (maxDischargeDepth := 7) [results, Try.results60, go_sem, *]; done)) rfl ⟨rfl, (by repeat (first | with_reducible exact Kept.refl _ | with_reducible assumption | with_reducible refine Kept.setCell ?_ (by first | (simp; done) | (simp; omega) | omega) _ | with_reducible refine Kept.alloc ?_ _ | with_reducible refine Kept.drewN ?_ _ | with_reducible refine Kept.drew ?_ | with_reducible refine Kept.trans ?_ (by with_reducible assumption) | with_reducible refine Kept.dr ?_ (by with_reducible assumption)))⟩
    · have f0 : 0 ≤ S := by omega
      have e2 : S = wh (u - v) := by rw [e2']; omega
      have e3 := wfit_yes (u := u - v) (by omega) (by omega)
      rw [e3.2, e3.1]
      have E := Lib.hid (And.intro e2 e1)
      clear e2 e3
      clear e1 e2' kz kL kH0 kH kA kB kA2 kB2 kL2 kH2 eu ev kS h0 h1 hH
      go_enter Try.func60, Try.ntmps60
      go_wp2_with fail
      all_goals exact bodyPost_ret (v := .tuple #[.agg #[.int .i64 S, .int .u64 L], .bool true]) (by first | (simp [results, Try.results60, go_sem]; done) | (simp (maxDischargeDepth := 7) [results, Try.results60, go_sem, *]; done)) rfl ⟨agg2b E.out.1 E.out.2 rfl, (by repeat (first | with_reducible exact Kept.refl _ | with_reducible assumption | with_reducible refine Kept.setCell ?_ (by first | (simp; done) | (simp; omega) | omega) _ | with_reducible refine Kept.alloc ?_ _ | with_reducible refine Kept.drewN ?_ _ | with_reducible refine Kept.drew ?_ | with_reducible refine Kept.trans ?_ (by with_reducible assumption) | with_reducible refine Kept.dr ?_ (by with_reducible assumption)))⟩
  · have kA2 : A_ = A := by omega
    have kB2 : B_ = B := by omega
    have kL2 : L = a - b + 18446744073709551616 := by omega
    have kH2 : H0 = A_ - B_ ∨ H0 = A_ - B_ + 18446744073709551616 := by omega
    have kz : u - v = (A - B - 1) * 18446744073709551616 + L := by omega
    have e2' : wh (u - v) = A - B - 1 := by unfold wh; omega
    obtain ⟨H, hH⟩ : ∃ H, IntKind.u64.wrap (H0 - 1) = H := ⟨_, rfl⟩
    have kH : H = (H0 - 1) % 18446744073709551616 := by rw [← hH, IntKind.wrap_u64]
    obtain ⟨S, hS⟩ : ∃ S, wrap64 H = S := ⟨_, rfl⟩
    have kS : (H < 9223372036854775808 ∧ S = H) ∨ (9223372036854775808 ≤ H ∧ S = H - 18446744073709551616) := by rw [← hS]; unfold wrap64; omega
    have h0 : 0 ≤ H := by omega
    have h1 : H ≤ 18446744073709551615 := by omega
    have e2 : S = wh (u - v) := by rw [e2']; omega
    have e3 := wfit_yes (u := u - v) (by omega) (by omega)
    rw [e3.2, e3.1]
    have E := Lib.hid (And.intro e2 e1)
    clear e2 e3
    clear e1 e2' kz kL kH0 kH kA kB kA2 kB2 kL2 kH2 eu ev kS h0 h1
    go_enter Try.func60, Try.ntmps60
    go_wp2_with fail
    all_goals exact bodyPost_ret (v := .tuple #[.agg #[.int .i64 S, .int .u64 L], .bool true]) (by first | (simp [results, Try.results60, go_sem]; done) | (simp (maxDischargeDepth := 7) [results, Try.results60, go_sem, *]; done)) rfl ⟨agg2b E.out.1 E.out.2 rfl, (by repeat (first | with_reducible exact Kept.refl _ | with_reducible assumption | with_reducible refine Kept.setCell ?_ (by first | (simp; done) | (simp; omega) | omega) _ | with_reducible refine Kept.alloc ?_ _ | with_reducible refine Kept.drewN ?_ _ | with_reducible refine Kept.drew ?_ | with_reducible refine Kept.trans ?_ (by with_reducible assumption) | with_reducible refine Kept.dr ?_ (by with_reducible assumption)))⟩
  · have kA2 : A_ = A := by omega
    have kB2 : B_ = B := by omega
    have kL2 : L = a - b := by omega
    have kH2 : H0 = A_ - B_ ∨ H0 = A_ - B_ + 18446744073709551616 := by omega
    have kz : u - v = (A - B + 0) * 18446744073709551616 + L := by omega
    have e2' : wh (u - v) = A - B + 0 := by unfold wh; omega
    obtain ⟨H, hH⟩ : ∃ H, H0 = H := ⟨_, rfl⟩
    rw [hH] at hH0
    have kH : H = H0 := hH.symm
    obtain ⟨S, hS⟩ : ∃ S, wrap64 H = S := ⟨_, rfl⟩
    have kS : (H < 9223372036854775808 ∧ S = H) ∨ (9223372036854775808 ≤ H ∧ S = H - 18446744073709551616) := by rw [← hS]; unfold wrap64; omega
    have h0 : 0 ≤ H := by omega
    have h1 : H ≤ 18446744073709551615 := by omega
    have e2 : S = wh (u - v) := by rw [e2']; omega
    have e3 := wfit_yes (u := u - v) (by omega) (by omega)
    rw [e3.2, e3.1]
    have E := Lib.hid (And.intro e2 e1)
    clear e2 e3
    clear e1 e2' kz kL kH0 kH kA kB kA2 kB2 kL2 kH2 eu ev kS h0 h1 hH
    go_enter Try.func60, Try.ntmps60
    go_wp2_with fail
    all_goals exact bodyPost_ret (v := .tuple #[.agg #[.int .i64 S, .int .u64 L], .bool true]) (by first | (simp [results, Try.results60, go_sem]; done) | (simp (maxDischargeDepth := 7) [results, Try.results60, go_sem, *]; done)) rfl ⟨agg2b E.out.1 E.out.2 rfl, (by repeat (first | with_reducible exact Kept.refl _ | with_reducible assumption | with_reducible refine Kept.setCell ?_ (by first | (simp; done) | (simp; omega) | omega) _ | with_reducible refine Kept.alloc ?_ _ | with_reducible refine Kept.drewN ?_ _ | with_reducible refine Kept.drew ?_ | with_reducible refine Kept.trans ?_ (by with_reducible assumption) | with_reducible refine Kept.dr ?_ (by with_reducible assumption)))⟩
set_option maxHeartbeats 2000000 in
set_option maxRecDepth 100000 in
theorem ref_cmp_w (u v : Int) (w : World) : Calls Try.prog 88 #[.agg #[.int .i64 (wh (u)), .int .u64 (wl (u))], .agg #[.int .i64 (wh (v)), .int .u64 (wl (v))]] w fun e w' => e = .returned (.int .i64 (wcm u v)) ∧ Kept w w' := by
  unfold wcm
  by_cases h : u < v
  · rw [if_pos h]
    obtain ⟨eu, u0, u1⟩ := wv u
    obtain ⟨ev, v0, v1⟩ := wv v
    generalize wh u = A at *; generalize wl u = a at *; generalize wh v = B at *; generalize wl v = b at *
    by_cases c : A < B
    · have n1 : (A == B) = false := by simpa using (show ¬ A = B by omega)
      have n2 : A < B := by omega
      clear eu ev c
      go_enter Try.func88, Try.ntmps88
      go_wp2_with fail
      all_goals go_ret
      exact ⟨rfl, (by repeat (first | with_reducible exact Kept.refl _ | with_reducible assumption | with_reducible refine Kept.setCell ?_ (by first | (simp; done) | (simp; omega) | omega) _ | with_reducible refine Kept.alloc ?_ _ | with_reducible refine Kept.drewN ?_ _ | with_reducible refine Kept.drew ?_ | with_reducible refine Kept.trans ?_ (by with_reducible assumption) | with_reducible refine Kept.dr ?_ (by with_reducible assumption)))⟩
    · have c1 : a < b := by omega
      have c3 : a < b := by omega
      have c2 : A = B := by omega
      subst c2
      have n1 : (a == b) = false := by simpa using (show ¬ a = b by omega)
      clear eu ev c
      go_enter Try.func88, Try.ntmps88
      go_wp2_with fail
      all_goals go_ret
      exact ⟨rfl, (by repeat (first | with_reducible exact Kept.refl _ | with_reducible assumption | with_reducible refine Kept.setCell ?_ (by first | (simp; done) | (simp; omega) | omega) _ | with_reducible refine Kept.alloc ?_ _ | with_reducible refine Kept.drewN ?_ _ | with_reducible refine Kept.drew ?_ | with_reducible refine Kept.trans ?_ (by with_reducible assumption) | with_reducible refine Kept.dr ?_ (by with_reducible assumption)))⟩
  · by_cases h2 : u = v
    · subst h2
      rw [if_neg h, if_pos rfl]
      obtain ⟨eu, u0, u1⟩ := wv u
      generalize wh u = A at *; generalize wl u = a at *
      clear eu h
      go_enter Try.func88, Try.ntmps88
      go_wp2_with fail
      all_goals go_ret
      exact ⟨rfl, (by repeat (first | with_reducible exact Kept.refl _ | with_reducible assumption | with_reducible refine Kept.setCell ?_ (by first | (simp; done) | (simp; omega) | omega) _ | with_reducible refine Kept.alloc ?_ _ | with_reducible refine Kept.drewN ?_ _ | with_reducible refine Kept.drew ?_ | with_reducible refine Kept.trans ?_ (by with_reducible assumption) | with_reducible refine Kept.dr ?_ (by with_reducible assumption)))⟩
    · rw [if_neg h, if_neg h2]
      obtain ⟨eu, u0, u1⟩ := wv u
      obtain ⟨ev, v0, v1⟩ := wv v
      generalize wh u = A at *; generalize wl u = a at *; generalize wh v = B at *; generalize wl v = b at *
      by_cases c : B < A
      · have n1 : (A == B) = false := by simpa using (show ¬ A = B by omega)
        have n2 : ¬ A < B := by omega
        clear eu ev c
        go_enter Try.func88, Try.ntmps88
        go_wp2_with fail
        all_goals go_ret
        exact ⟨rfl, (by repeat (first | with_reducible exact Kept.refl _ | with_reducible assumption | with_reducible refine Kept.setCell ?_ (by first | (simp; done) | (simp; omega) | omega) _ | with_reducible refine Kept.alloc ?_ _ | with_reducible refine Kept.drewN ?_ _ | with_reducible refine Kept.drew ?_ | with_reducible refine Kept.trans ?_ (by with_reducible assumption) | with_reducible refine Kept.dr ?_ (by with_reducible assumption)))⟩
      · have c1 : b < a := by omega
        have c3 : ¬ a < b := by omega
        have c2 : A = B := by omega
        subst c2
        have n1 : (a == b) = false := by simpa using (show ¬ a = b by omega)
        clear eu ev c
        go_enter Try.func88, Try.ntmps88
        go_wp2_with fail
        all_goals go_ret
        exact ⟨rfl, (by repeat (first | with_reducible exact Kept.refl _ | with_reducible assumption | with_reducible refine Kept.setCell ?_ (by first | (simp; done) | (simp; omega) | omega) _ | with_reducible refine Kept.alloc ?_ _ | with_reducible refine Kept.drewN ?_ _ | with_reducible refine Kept.drew ?_ | with_reducible refine Kept.trans ?_ (by with_reducible assumption) | with_reducible refine Kept.dr ?_ (by with_reducible assumption)))⟩
set_option maxHeartbeats 2000000 in
set_option maxRecDepth 100000 in
theorem ref_sign_w (u : Int) (w : World) : Calls Try.prog 97 #[.agg #[.int .i64 (wh (u)), .int .u64 (wl (u))]] w fun e w' => e = .returned (.int .i64 (wcm u 0)) ∧ Kept w w' := by
  have h := ref_cmp_w u 0
  have z1 : wh 0 = 0 := by decide
  have z2 : wl 0 = 0 := by decide
  rw [z1, z2] at h
  have H := Lib.hid h
  clear h z1 z2
  generalize wcm u 0 = V at *
  generalize wh u = A at *; generalize wl u = a at *
  go_enter Try.func97, Try.ntmps97
  go_wp2_with fail
  with_reducible refine (H.out _).mono ?_
  rintro e w1 ⟨rfl, hk1⟩
  refine kuse (b := w.heap.size) hk1 (by first | (simp; done) | (simp; omega) | omega) ?_
  intro ha hb
  have hz1_0 : w.heap.size < w1.heap.size := by have := hk1.size; (try simp at this); omega
  have hn1_0 : ¬ w.heap.size = w1.heap.size := by omega
  have hm1_0 : ¬ w1.heap.size = w.heap.size := by omega
  have hf1_0_0 : w1.cell? ⟨w.heap.size, 0, none⟩ = some (.int .i64 A) := by first | (rw [ha]; with_reducible assumption) | (simp (maxDischargeDepth := 7) [go_sem, ha]; done) | (rw [ha]; assumption) | (simp (maxDischargeDepth := 7) [go_sem, ha, *]; done)
  have hf1_0_1 : w1.cell? ⟨w.heap.size, 1, none⟩ = some (.int .u64 a) := by first | (rw [ha]; with_reducible assumption) | (simp (maxDischargeDepth := 7) [go_sem, ha]; done) | (rw [ha]; assumption) | (simp (maxDischargeDepth := 7) [go_sem, ha, *]; done)
  try have hg1_0 : ∀ o, w1.frozen? ⟨w.heap.size, o, none⟩ = false := by intro o; first | (simp (maxDischargeDepth := 7) [go_sem, hb]; done) | (rw [hb]; simp (maxDischargeDepth := 7) [go_sem, *]; done)
  clear ha hb
  go_wp2_with fail
  all_goals go_ret
  all_goals exact ⟨rfl, (by repeat (first | with_reducible exact Kept.refl _ | with_reducible assumption | with_reducible refine Kept.setCell ?_ (by first | (simp; done) | (simp; omega) | omega) _ | with_reducible refine Kept.alloc ?_ _ | with_reducible refine Kept.drewN ?_ _ | with_reducible refine Kept.drew ?_ | with_reducible refine Kept.trans ?_ (by with_reducible assumption) | with_reducible refine Kept.dr ?_ (by with_reducible assumption)))⟩
end Go.Proofs.Ytinpmooihjdbgaa
