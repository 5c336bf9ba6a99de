/-
  Own contracts over the landed program: package fixed.
-/
import Derived.Test.YtfmijkbmedfcfaaBits
import Derived.WalkKit
import Derived.ProofKit
import Derived.OpenShut
import Derived.WalkLawsBesides
import Derived.WalkSpells
import Derived.Lib.Hide
import Derived.Deep.DeepCutAuto
import Derived.Deep.CutBlock
import Derived.Deep.QuietTactic
import Derived.BigQuiet
import Derived.Handy
namespace Go.Proofs.Ytfmijkbmedfcfaa
open Go.ChangeShapes Go.WideShapes Go.ChangeAt Go.RowKit
set_option linter.unusedVariables false
set_option linter.unusedSimpArgs false

theorem magnitude_w (a : Int) (h0 : -9223372036854775808 ≤ a) (h1 : a ≤ 9223372036854775807) (w : World) :
    Calls Try.prog 30 #[.int .i64 a] w fun e w' => e = .returned (.int .u64 a.natAbs) ∧ w = w' := by
  by_cases h : a < 0
  · go_enter Try.func30, Try.ntmps30
    go_wp2
    go_ret
    refine ⟨?_, rfl⟩
    show Ending.returned (.int .u64 _) = _
    have e : IntKind.u64.wrap (-IntKind.u64.wrap a) = a.natAbs := by simp only [IntKind.wrap_u64]; omega
    rw [e]
  · have e : a = a.natAbs := by omega
    have E := Lib.hid e
    clear e
    go_enter Try.func30, Try.ntmps30
    go_wp2
    go_ret
    refine ⟨?_, rfl⟩
    show Ending.returned (.int .u64 _) = _
    rw [← E.out]
theorem fxsigned_w (q : Int) (n : Bool) (h0 : 0 ≤ q) (h1 : q ≤ 18446744073709551615) (w : World) :
    Calls Try.prog 33 #[.int .u64 q, .bool n] w fun e w' => e = .returned (.tuple #[.int .i64 (sgV q n), .int .i64 (sgE q n)]) ∧ w = w' := by
  by_cases c1 : 9223372036854775808 < q
  · have e1 : sgV q n = 0 := by unfold sgV; rw [if_pos (Or.inl c1)]
    have e2 : sgE q n = 2 := by unfold sgE; rw [if_pos (Or.inl c1)]
    go_enter Try.func33, Try.ntmps33
    go_wp2
    go_ret2
    refine ⟨?_, rfl⟩
    (try rw [e1]); (try rw [e2]); rfl
  · by_cases c2 : q = 9223372036854775808
    · subst c2
      cases n
      · have e1 : sgV 9223372036854775808 false = 0 := by decide
        have e2 : sgE 9223372036854775808 false = 2 := by decide
        go_enter Try.func33, Try.ntmps33
        go_wp2
        go_ret2
        refine ⟨?_, rfl⟩
        (try rw [e1]); (try rw [e2]); first | rfl | (show Ending.returned (.tuple #[.int .i64 (wrap64 (IntKind.u64.wrap (-9223372036854775808))), _]) = _; rw [show wrap64 (IntKind.u64.wrap (-9223372036854775808)) = -9223372036854775808 from by decide +kernel]; rfl)
      · have e1 : sgV 9223372036854775808 true = -9223372036854775808 := by decide
        have e2 : sgE 9223372036854775808 true = 0 := by decide
        go_enter Try.func33, Try.ntmps33
        go_wp2
        go_ret2
        refine ⟨?_, rfl⟩
        (try rw [e1]); (try rw [e2]); first | rfl | (show Ending.returned (.tuple #[.int .i64 (wrap64 (IntKind.u64.wrap (-9223372036854775808))), _]) = _; rw [show wrap64 (IntKind.u64.wrap (-9223372036854775808)) = -9223372036854775808 from by decide +kernel]; rfl)
    · have c2' : (q == 9223372036854775808) = false := by rw [beq_eq_false_iff_ne]; exact c2
      have hlt : q ≤ 9223372036854775807 := by omega
      have e1 : sgV q n = if n then -q else q := by unfold sgV; rw [if_neg (by omega)]
      have e2 : sgE q n = 0 := by unfold sgE; rw [if_neg (by omega)]
      cases n
      · simp only [Bool.false_eq_true, if_false] at e1
        have E1 := Lib.hid e1
        clear e1
        go_enter Try.func33, Try.ntmps33
        go_wp2
        go_ret2
        refine ⟨?_, rfl⟩
        rw [E1.out]; (try rw [e2]); first | rfl | (rw [← E3]; rfl)
      · simp only [if_true] at e1
        have E1 := Lib.hid e1
        clear e1
        have e3 : IntKind.i64.wrap (IntKind.u64.wrap (-q)) = -q := by simp only [IntKind.wrap_u64, IntKind.wrap_i64]; omega
        have E3 : wrap64 (IntKind.u64.wrap (-q)) = -q := by rw [← IntWalk.i64_left]; exact e3
        go_enter Try.func33, Try.ntmps33
        go_wp2
        go_ret2
        refine ⟨?_, rfl⟩
        rw [E1.out]; (try rw [e2]); first | rfl | (rw [← E3]; rfl)
theorem grows_w (r d way : Int) (n : Bool) (hw : way = 0 ∨ way = 1 ∨ way = 2) (h0 : 0 ≤ r) (h1 : r < d) (h2 : d ≤ 9223372036854775808) (w : World) :
    Calls Try.prog 32 #[.int .u64 r, .int .u64 d, .bool n, .int .u8 way] w fun e w' => e = .returned (.bool (gr way r d n)) ∧ w = w' := by
  by_cases c1 : r = 0
  · subst c1
    have e : gr way 0 d n = false := by simp [gr]
    rcases hw with rfl | rfl | rfl <;>
    · go_enter Try.func32, Try.ntmps32
      go_wp2
      go_ret
      refine ⟨?_, rfl⟩
      rw [e]; rfl
  · have c1' : (r == 0) = false := by rw [beq_eq_false_iff_ne]; exact c1
    rcases hw with rfl | rfl | rfl
    · have e : gr 0 r d n = n := by simp [gr, c1]
      go_enter Try.func32, Try.ntmps32
      go_wp2
      go_ret
      refine ⟨?_, rfl⟩
      rw [e]; rfl
    · have e : gr 1 r d n = !n := by simp [gr, c1]
      go_enter Try.func32, Try.ntmps32
      go_wp2
      go_ret
      refine ⟨?_, rfl⟩
      rw [e]; rfl
    · cases n
      · have e : gr 2 r d false = decide (d ≤ 2 * r) := by simp [gr, c1]
        have E := Lib.hid e
        clear e
        go_enter Try.func32, Try.ntmps32
        go_wp2
        go_ret
        refine ⟨?_, rfl⟩
        rw [E.out]; rfl
      · have e : gr 2 r d true = decide (d < 2 * r) := by simp [gr, c1]
        have E := Lib.hid e
        clear e
        go_enter Try.func32, Try.ntmps32
        go_wp2
        go_ret
        refine ⟨?_, rfl⟩
        rw [E.out]; rfl
/-- the sign as the walk writes it -/
theorem neg3_walk (a b c : Int) : neg3 a b c = (!((!(decide (a < 0) == decide (b < 0))) == decide (c < 0))) := by
  unfold neg3; cases decide (a < 0) <;> cases decide (b < 0) <;> cases decide (c < 0) <;> rfl

set_option maxHeartbeats 800000 in
theorem quotient_w (a b c way : Int) (hw : way = 0 ∨ way = 1 ∨ way = 2) (a0 : -9223372036854775808 ≤ a) (a1 : a ≤ 9223372036854775807) (b0 : -9223372036854775808 ≤ b) (b1 : b ≤ 9223372036854775807) (c0 : -9223372036854775808 ≤ c) (c1 : c ≤ 9223372036854775807) (w : World) :
    Calls Try.prog 29 #[.int .i64 a, .int .i64 b, .int .i64 c, .int .u8 way] w fun e w' => e = .returned (.tuple #[.int .i64 (mqv way a b c), .int .i64 (mqe way a b c)]) ∧ Dr w w' := by
  by_cases hc : c = 0
  · subst hc
    have e1 : mqv way a b 0 = 0 := by simp [mqv]
    have e2 : mqe way a b 0 = 1 := by simp [mqe]
    go_enter Try.func29, Try.ntmps29
    go_wp2_with fail
    go_ret2
    refine ⟨?_, Dr.refl _⟩
    (try rw [e1]); (try rw [e2]); rfl
  · have hc' : (c == 0) = false := by rw [beq_eq_false_iff_ne]; exact hc
    have ab := natAbs_bd a a0 a1
    have bb := natAbs_bd b b0 b1
    have cb := natAbs_bd c c0 c1
    have cpos : 0 < (c.natAbs : Int) := by omega
    have pb := le_mul (a.natAbs : Int) b.natAbs 9223372036854775808 9223372036854775808 ab.1 ab.2 bb.1 bb.2
    have far := mq_far way a b c hw hc _ rfl
    have near := mq_sg way a b c hw hc (!((!(decide (a < 0) == decide (b < 0))) == decide (c < 0))) (neg3_walk a b c) _ _ rfl rfl (Int.ediv_nonneg pb.1 (by omega))
    have MA := fun w => magnitude_w a a0 a1 w
    have MB := fun w => magnitude_w b b0 b1 w
    have MC := fun w => magnitude_w c c0 c1 w
    obtain ⟨A, hA⟩ : ∃ A : Int, (a.natAbs : Int) = A := ⟨_, rfl⟩
    obtain ⟨B, hB⟩ : ∃ B : Int, (b.natAbs : Int) = B := ⟨_, rfl⟩
    obtain ⟨D, hD⟩ : ∃ D : Int, (c.natAbs : Int) = D := ⟨_, rfl⟩
    rw [hA, hB, hD] at far near
    rw [hA, hB] at pb
    rw [hA] at ab MA
    rw [hB] at bb MB
    rw [hD] at cb cpos MC
    obtain ⟨N, hN⟩ : ∃ N, A * B = N := ⟨_, rfl⟩
    rw [hN] at far near pb
    have hdm := Int.emod_add_mul_ediv N D
    have hr0 := Int.emod_nonneg N (show D ≠ 0 by omega)
    have hr1 := Int.emod_lt_of_pos N cpos
    obtain ⟨q, hq⟩ : ∃ q, N / D = q := ⟨_, rfl⟩
    obtain ⟨r, hr⟩ : ∃ r, N % D = r := ⟨_, rfl⟩
    have hq0 : 0 ≤ q := by rw [← hq]; exact Int.ediv_nonneg pb.1 (by omega)
    rw [hq, hr] at hdm
    rw [hq] at far near
    rw [hr] at hr0 hr1 near
    have M1 := fun w => mul64_w A B ab.1 (by omega) bb.1 (by omega) w
    rw [hN] at M1
    have hMA := Lib.hid MA
    have hMB := Lib.hid MB
    have hMC := Lib.hid MC
    have hM1 := Lib.hid M1
    have hhi : 0 ≤ N / 18446744073709551616 ∧ N / 18446744073709551616 ≤ 4611686018427387904 := by omega
    have hlo : 0 ≤ N % 18446744073709551616 ∧ N % 18446744073709551616 ≤ 18446744073709551615 := by omega
    have D1 := fun w hlt => div64_w (N / 18446744073709551616) (N % 18446744073709551616) D (by omega) (by omega) (by omega) (by omega) hlt w
    rw [show N / 18446744073709551616 * 18446744073709551616 + N % 18446744073709551616 = N from by omega, hq, hr] at D1
    have hD1 := Lib.hid D1
    have G1 := fun w => grows_w r D way (!((!(decide (a < 0) == decide (b < 0))) == decide (c < 0))) hw hr0 hr1 cb.2 w
    have hG1 := Lib.hid G1
    have hfar : D ≤ N / 18446744073709551616 → 9223372036854775808 < q := by
      intro h
      have h2 : D * 18446744073709551616 ≤ N := by omega
      have h3 : 18446744073709551616 ≤ q := by rw [← hq, Int.le_ediv_iff_mul_le cpos, Int.mul_comm]; exact h2
      omega
    generalize N / 18446744073709551616 = hi at *
    generalize N % 18446744073709551616 = lo at *
    have FAR := Lib.hid far
    have NEAR := Lib.hid near
    have HFAR := Lib.hid hfar
    clear MA MB MC M1 D1 G1 far near hfar hdm hN hA hB hD hq hr pb hc
    by_cases c1 : D ≤ hi
    · have e := FAR.out (HFAR.out c1)
      have E := Lib.hid e
      clear e
      go_enter Try.func29, Try.ntmps29
      go_wp2_with fail
      refine (hMC.out _).mono ?_
      rintro e w' ⟨rfl, rfl⟩
      go_wp2_with fail
      refine (hMA.out _).mono ?_
      rintro e w' ⟨rfl, rfl⟩
      go_wp2_with fail
      refine (hMB.out _).mono ?_
      rintro e w' ⟨rfl, rfl⟩
      go_wp2_with fail
      refine (hM1.out _).mono ?_
      rintro e w' ⟨rfl, rfl⟩
      go_wp2_with fail
      go_ret2
      refine ⟨?_, Dr.refl _⟩
      rw [E.out.1, E.out.2]; rfl
    · by_cases c2 : 9223372036854775808 < q
      · have e := FAR.out c2
        have E := Lib.hid e
        clear e
        go_enter Try.func29, Try.ntmps29
        go_wp2_with fail
        refine (hMC.out _).mono ?_
        rintro e w' ⟨rfl, rfl⟩
        go_wp2_with fail
        refine (hMA.out _).mono ?_
        rintro e w' ⟨rfl, rfl⟩
        go_wp2_with fail
        refine (hMB.out _).mono ?_
        rintro e w' ⟨rfl, rfl⟩
        go_wp2_with fail
        refine (hM1.out _).mono ?_
        rintro e w' ⟨rfl, rfl⟩
        go_wp2_with fail
        refine (hD1.out _ (by omega)).mono ?_
        rintro e w1 ⟨rfl, hg⟩
        go_wp2_with fail
        go_ret2
        refine ⟨?_, hg⟩
        rw [E.out.1, E.out.2]; rfl
      · have e := NEAR.out
        cases hgr : gr way r D (!((!(decide (a < 0) == decide (b < 0))) == decide (c < 0)))
        all_goals
          rw [hgr] at e hG1
          have E := Lib.hid e
          clear e hgr
          go_enter Try.func29, Try.ntmps29
          go_wp2_with fail
          refine (hMC.out _).mono ?_
          rintro e w' ⟨rfl, rfl⟩
          go_wp2_with fail
          refine (hMA.out _).mono ?_
          rintro e w' ⟨rfl, rfl⟩
          go_wp2_with fail
          refine (hMB.out _).mono ?_
          rintro e w' ⟨rfl, rfl⟩
          go_wp2_with fail
          refine (hM1.out _).mono ?_
          rintro e w' ⟨rfl, rfl⟩
          go_wp2_with fail
          refine (hD1.out _ (by omega)).mono ?_
          rintro e w1 ⟨rfl, hg⟩
          go_wp2_with fail
          refine (hG1.out _).mono ?_
          rintro e w2 ⟨rfl, rfl⟩
          go_wp2_with fail
          refine (fxsigned_w _ (!((!(decide (a < 0) == decide (b < 0))) == decide (c < 0))) (by omega) (by omega) _).mono ?_
          rintro e w2 ⟨rfl, rfl⟩
          go_wp2_with fail
          go_ret2
          refine ⟨?_, hg⟩
          rw [E.out.1, E.out.2]; first | (rw [show q + bi false = q from Int.add_zero q]; rfl) | rfl
theorem floor_w (a b : Int) (a0 : -9223372036854775808 ≤ a) (a1 : a ≤ 9223372036854775807) (b0 : -9223372036854775808 ≤ b) (b1 : b ≤ 9223372036854775807) (w : World) :
    Calls Try.prog 21 #[.int .i64 a, .int .i64 b] w fun e w' => e = .returned (.tuple #[.int .i64 (mqv 0 a 1 b), .int .i64 (mqe 0 a 1 b)]) ∧ Dr w w' := by
  go_enter Try.func21, Try.ntmps21
  go_wp2_with fail
  refine (quotient_w a 1 b 0 (by omega) (by omega) (by omega) (by omega) (by omega) (by omega) (by omega) _).mono ?_
  rintro e w1 ⟨rfl, hg⟩
  go_wp2_with fail
  go_ret2
  exact ⟨rfl, hg⟩
theorem ceil_w (a b : Int) (a0 : -9223372036854775808 ≤ a) (a1 : a ≤ 9223372036854775807) (b0 : -9223372036854775808 ≤ b) (b1 : b ≤ 9223372036854775807) (w : World) :
    Calls Try.prog 22 #[.int .i64 a, .int .i64 b] w fun e w' => e = .returned (.tuple #[.int .i64 (mqv 1 a 1 b), .int .i64 (mqe 1 a 1 b)]) ∧ Dr w w' := by
  go_enter Try.func22, Try.ntmps22
  go_wp2_with fail
  refine (quotient_w a 1 b 1 (by omega) (by omega) (by omega) (by omega) (by omega) (by omega) (by omega) _).mono ?_
  rintro e w1 ⟨rfl, hg⟩
  go_wp2_with fail
  go_ret2
  exact ⟨rfl, hg⟩
theorem muldiv_w (a b c : Int) (a0 : -9223372036854775808 ≤ a) (a1 : a ≤ 9223372036854775807) (b0 : -9223372036854775808 ≤ b) (b1 : b ≤ 9223372036854775807) (c0 : -9223372036854775808 ≤ c) (c1 : c ≤ 9223372036854775807) (w : World) :
    Calls Try.prog 23 #[.int .i64 a, .int .i64 b, .int .i64 c] w fun e w' => e = .returned (.tuple #[.int .i64 (mqv 0 a b c), .int .i64 (mqe 0 a b c)]) ∧ Dr w w' := by
  go_enter Try.func23, Try.ntmps23
  go_wp2_with fail
  refine (quotient_w a b c 0 (by omega) (by omega) (by omega) (by omega) (by omega) (by omega) (by omega) _).mono ?_
  rintro e w1 ⟨rfl, hg⟩
  go_wp2_with fail
  go_ret2
  exact ⟨rfl, hg⟩
theorem muldivup_w (a b c : Int) (a0 : -9223372036854775808 ≤ a) (a1 : a ≤ 9223372036854775807) (b0 : -9223372036854775808 ≤ b) (b1 : b ≤ 9223372036854775807) (c0 : -9223372036854775808 ≤ c) (c1 : c ≤ 9223372036854775807) (w : World) :
    Calls Try.prog 24 #[.int .i64 a, .int .i64 b, .int .i64 c] w fun e w' => e = .returned (.tuple #[.int .i64 (mqv 1 a b c), .int .i64 (mqe 1 a b c)]) ∧ Dr w w' := by
  go_enter Try.func24, Try.ntmps24
  go_wp2_with fail
  refine (quotient_w a b c 1 (by omega) (by omega) (by omega) (by omega) (by omega) (by omega) (by omega) _).mono ?_
  rintro e w1 ⟨rfl, hg⟩
  go_wp2_with fail
  go_ret2
  exact ⟨rfl, hg⟩
theorem extreme_w (n : Bool) (w : World) :
    Calls Try.prog 28 #[.bool n] w fun e w' => e = .returned (.int .i64 (if n then -9223372036854775808 else 9223372036854775807)) ∧ w = w' := by
  cases n <;>
  · go_enter Try.func28, Try.ntmps28
    go_wp2
    go_ret
    exact ⟨rfl, rfl⟩
theorem add_w (a b : Int) (a0 : -9223372036854775808 ≤ a) (a1 : a ≤ 9223372036854775807) (b0 : -9223372036854775808 ≤ b) (b1 : b ≤ 9223372036854775807) (w : World) :
    Calls Try.prog 16 #[.int .i64 a, .int .i64 b] w fun e w' => e = .returned (.int .i64 (sat (a + b))) ∧ w = w' := by
  by_cases c1 : b = 0
  · subst c1
    have e : sat (a + 0) = a := by unfold sat; rw [if_neg (by omega), if_neg (by omega)]; omega
    have E := Lib.hid e
    clear e
    go_enter Try.func16, Try.ntmps16
    go_wp2
    go_ret
    refine ⟨?_, rfl⟩
    rw [E.out]; rfl
  · have c1' : (b != 0) = true := by rw [bne_iff_ne]; exact c1
    by_cases c2 : 0 < b
    · have c2' : ¬ b < 0 := by omega
      by_cases c3 : (a + b) ≤ 9223372036854775807
      · have e : sat (a + b) = (a + b) := by unfold sat; rw [if_neg (by omega), if_neg (by omega)]
        have E := Lib.hid e
        clear e c1
        have c4 : a < a + b := by omega
        have c5 : ¬ a + b < a := by omega
        go_enter Try.func16, Try.ntmps16
        go_wp2
        go_ret
        refine ⟨?_, rfl⟩
        rw [E.out]; rfl
      · have e : sat (a + b) = 9223372036854775807 := by unfold sat; rw [if_neg (by omega), if_pos (by omega)]
        have E := Lib.hid e
        clear e c1
        have c4 : wrap64 (a + b) < a := by unfold wrap64; omega
        generalize hs : wrap64 (a + b) = s at c4
        have c5 : ¬ a < s := by omega
        go_enter Try.func16, Try.ntmps16
        go_wp2_with (go_at_call 28; refine (extreme_w _ _).mono ?_; rintro e w' ⟨rfl, rfl⟩)
        go_ret
        refine ⟨?_, rfl⟩
        rw [E.out]; rfl
    · have c2' : b < 0 := by omega
      by_cases c3 : -9223372036854775808 ≤ (a + b)
      · have e : sat (a + b) = (a + b) := by unfold sat; rw [if_neg (by omega), if_neg (by omega)]
        have E := Lib.hid e
        clear e c1
        have c4 : a + b < a := by omega
        have c5 : ¬ a < a + b := by omega
        go_enter Try.func16, Try.ntmps16
        go_wp2
        go_ret
        refine ⟨?_, rfl⟩
        rw [E.out]; rfl
      · have e : sat (a + b) = -9223372036854775808 := by unfold sat; rw [if_pos (by omega)]
        have E := Lib.hid e
        clear e c1
        have c4 : a < wrap64 (a + b) := by unfold wrap64; omega
        generalize hs : wrap64 (a + b) = s at c4
        have c5 : ¬ s < a := by omega
        go_enter Try.func16, Try.ntmps16
        go_wp2_with (go_at_call 28; refine (extreme_w _ _).mono ?_; rintro e w' ⟨rfl, rfl⟩)
        go_ret
        refine ⟨?_, rfl⟩
        rw [E.out]; rfl
theorem sqrt_w (n : Int) (n0 : -9223372036854775808 ≤ n) (n1 : n ≤ 9223372036854775807) (w : World) :
    Calls Try.prog 25 #[.int .i64 n] w fun e w' => e = .returned (.int .i64 (isq n)) ∧ w = w' := by
  by_cases c1 : n < 0
  · have e : isq n = 0 := by unfold isq; rw [if_pos c1]
    go_enter Try.func25, Try.ntmps25
    go_wp2
    go_ret
    refine ⟨?_, rfl⟩
    (try rw [e]); rfl
  · have e : isq n = isqS n.toNat 32 0 := by unfold isq; rw [if_neg c1]
    obtain ⟨N, rfl⟩ := Int.eq_ofNat_of_zero_le (show 0 ≤ n by omega)
    rw [Int.toNat_natCast] at e
    have E := Lib.hid e
    clear e
    go_enter Try.func25, Try.ntmps25
    go_wp2_with fail
    go_loop [3, 4, 5] (fun t b _ => ∃ k r : Nat, k ≤ 32 ∧ t = .int .i64 (r : Int) ∧ b = .int .i64 ((2 : Int) ^ k / 2) ∧ r % 2 ^ k = 0 ∧ r + 2 ^ k ≤ 4294967296 ∧ isqS N k r = isqS N 32 0) (fun _ b _ => (intOf b).toNat)
    case atStart => exact ⟨32, 0, by omega, rfl, rfl, rfl, by decide, rfl⟩
    case round =>
      obtain ⟨k, r, hk, rfl, rfl, hr, hb, hs⟩ := hrel
      cases k with
      | zero =>
        have hz : ((2 : Int) ^ 0 / 2) = 0 := rfl
        have HS := Lib.hid hs
        clear hs hr hb
        go_wp2
        go_ret
        refine ⟨?_, rfl⟩
        rw [E.out, ← HS.out]; rfl
      | succ k =>
        have hp := Nat.two_pow_pos k
        have hB : ((2 : Int) ^ (k + 1) / 2) = ((2 ^ k : Nat) : Int) := by rw [Int.pow_succ]; push_cast; omega
        have hlo : r % 2 ^ k = 0 := by
          have := Nat.mod_mod_of_dvd r (Nat.pow_dvd_pow 2 (show k ≤ k + 1 by omega))
          rw [hr] at this; simpa using this.symm
        have hb' : r + 2 ^ k + 2 ^ k ≤ 4294967296 := by rw [Nat.pow_succ] at hb; omega
        have hlo2 : (r + 2 ^ k) % 2 ^ k = 0 := by simp [hlo]
        have hor := i64_or_join r (2 ^ k) (k + 1) (by omega) hr (by rw [Nat.pow_succ]; omega)
        have hhalf : ((2 ^ k : Nat) : Int) / 2 = (2 : Int) ^ k / 2 := by push_cast; rfl
        have hstep : isqS N (k + 1) r = isqS N k (if (r + 2 ^ k) * (r + 2 ^ k) ≤ N then r + 2 ^ k else r) := rfl
        rw [hs] at hstep
        have HB := Lib.hid hB
        have HH := Lib.hid hhalf
        have HST := Lib.hid hstep
        have HL := Lib.hid hlo
        have HL2 := Lib.hid hlo2
        obtain ⟨B, hBB⟩ : ∃ B, 2 ^ k = B := ⟨_, rfl⟩
        rw [hB, hBB]
        clear hs hB hhalf hstep hlo hlo2 hr hb
        rw [hBB] at hor HST HL HL2 HH hb' hp
        rw [show ((r + B : Nat) : Int) = (r : Int) + B from by push_cast; rfl] at hor
        have HBB := Lib.hid hBB
        clear hBB
        have ht : (r : Int) + B ≤ (N : Int) / ((r : Int) + B) ↔ (r + B) * (r + B) ≤ N := by
          rw [Int.le_ediv_iff_mul_le (by omega)]
          have : (((r + B) * (r + B) : Nat) : Int) = ((r : Int) + B) * ((r : Int) + B) := by push_cast; rfl
          omega
        have hq : 0 ≤ (N : Int) / ((r : Int) + B) := Int.ediv_nonneg (by omega) (by omega)
        have hq' : (N : Int) / ((r : Int) + B) ≤ 9223372036854775807 := by have := Int.ediv_le_self (a := (N : Int)) ((r : Int) + B) (by omega); omega
        by_cases c2 : (r + B) * (r + B) ≤ N
        · have ht' := ht.2 c2
          have c2' := HST.out
          rw [if_pos c2] at c2'
          have HST' := Lib.hid c2'
          clear ht c2 c2' HST
          go_wp2
          go_round
          case rel => exact ⟨k, r + B, by omega, by rw [show ((r + B : Nat) : Int) = (r : Int) + B from by push_cast; rfl], by rw [HH.out], by rw [HBB.out]; exact HL2.out, by rw [HBB.out]; exact hb', HST'.out.symm⟩
          case measure => simp [intOf]; omega
        · have ht' : ¬ (r : Int) + B ≤ (N : Int) / ((r : Int) + B) := fun h => c2 (ht.1 h)
          have c2' := HST.out
          rw [if_neg c2] at c2'
          have HST' := Lib.hid c2'
          clear ht c2 c2' HST
          go_wp2
          go_round
          case rel => exact ⟨k, r, by omega, rfl, by rw [HH.out], by rw [HBB.out]; exact HL.out, by rw [HBB.out]; omega, HST'.out.symm⟩
          case measure => simp [intOf]; omega
theorem sqrtup_w (n : Int) (n0 : -9223372036854775808 ≤ n) (n1 : n ≤ 9223372036854775807) (w : World) :
    Calls Try.prog 26 #[.int .i64 n] w fun e w' => e = .returned (.int .i64 (isqUp n)) ∧ w = w' := by
  have hb : 0 ≤ isq n ∧ isq n ≤ 4294967295 ∧ 0 ≤ isq n * isq n ∧ isq n * isq n ≤ 9223372036854775807 := by
    by_cases c : n < 0
    · have : isq n = 0 := by unfold isq; rw [if_pos c]
      rw [this]; decide
    · have ⟨h1, h2, h3, h4⟩ := isq_ok n (by omega) (by omega)
      exact ⟨h1, h4, Int.mul_nonneg h1 h1, by omega⟩
  obtain ⟨h1, h2, h3, h4⟩ := hb
  by_cases c : isq n * isq n < n
  · have e : isqUp n = isq n + 1 := by unfold isqUp; rw [if_pos c]
    have E := Lib.hid e
    clear e
    go_enter Try.func26, Try.ntmps26
    go_wp2_with fail
    refine (sqrt_w n n0 n1 _).mono ?_
    rintro e w1 ⟨rfl, rfl⟩
    go_wp2_with fail
    go_ret
    refine ⟨?_, rfl⟩
    rw [E.out]; rfl
  · have e : isqUp n = isq n := by unfold isqUp; rw [if_neg c]
    have E := Lib.hid e
    clear e
    go_enter Try.func26, Try.ntmps26
    go_wp2_with fail
    refine (sqrt_w n n0 n1 _).mono ?_
    rintro e w1 ⟨rfl, rfl⟩
    go_wp2_with fail
    go_ret
    refine ⟨?_, rfl⟩
    rw [E.out]; rfl
end Go.Proofs.Ytfmijkbmedfcfaa
