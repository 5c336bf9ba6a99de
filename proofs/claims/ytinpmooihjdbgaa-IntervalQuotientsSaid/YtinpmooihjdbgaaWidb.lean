/-
  Own contracts: package wide: magnitudes, comparisons, products.
-/
import Derived.Test.YtinpmooihjdbgaaWida
import Derived.WalkKit
import Derived.ProofKit
import Derived.OpenShut
import Derived.WalkLawsBesides
import Derived.WalkSpells
import Derived.Lib.Hide
import Derived.Deep.DeepCutAuto
import Derived.Deep.CutBlock
import Derived.Deep.QuietTactic
import Derived.BigQuiet
import Derived.Handy
import Derived.StillTailTactics
import Derived.IntWalk
import Derived.LoopN
import Derived.Deep.RegionHeld3
namespace Go.Proofs.Ytinpmooihjdbgaa
open Go.ChangeShapes Go.WideShapes Go.ChangeAt Go.RowKit
set_option linter.unusedVariables false
set_option linter.unusedSimpArgs false

theorem sgn_bd (a b : Int) (a0 : -9223372036854775808 ≤ a) (a1 : a ≤ 9223372036854775807) (b0 : -9223372036854775808 ≤ b) (b1 : b ≤ 9223372036854775807) :
    -85070591730234615865843651857942052864 ≤ a * b ∧ a * b ≤ 85070591730234615865843651857942052864 := by
  have h : ∀ x y : Int, 0 ≤ x → x ≤ 9223372036854775808 → 0 ≤ y → y ≤ 9223372036854775808 → 0 ≤ x * y ∧ x * y ≤ 85070591730234615865843651857942052864 :=
    fun x y h0 h1 h2 h3 => le_mul x y 9223372036854775808 9223372036854775808 h0 h1 h2 h3
  by_cases ha : 0 ≤ a <;> by_cases hb : 0 ≤ b
  · have := h a b ha (by omega) hb (by omega); omega
  · have := h a (-b) ha (by omega) (by omega) (by omega); rw [Int.mul_neg] at this; omega
  · have := h (-a) b (by omega) (by omega) hb (by omega); rw [Int.neg_mul] at this; omega
  · have := h (-a) (-b) (by omega) (by omega) (by omega) (by omega); rw [Int.neg_mul_neg] at this; omega
theorem wm00 (a b A B : Int) (a_0 : -9223372036854775808 ≤ a) (a_1 : a ≤ 9223372036854775807) (b_0 : -9223372036854775808 ≤ b) (b_1 : b ≤ 9223372036854775807) (hA : A = a) (hB : B = b) : wrap64 (A * B / 18446744073709551616) = wh (a * b) ∧ A * B % 18446744073709551616 = wl (a * b) := by
  obtain ⟨p0, p1⟩ := sgn_bd a b a_0 a_1 b_0 b_1
  have h : A * B = a * b := by subst hA hB; (try simp only [Int.add_mul, Int.mul_add]); (try omega)
  unfold wh wl wrap64
  (try simp only [IntKind.wrap_u64])
  rw [h]
  generalize a * b = p at *
  clear h
  constructor <;> omega
set_option maxHeartbeats 1000000 in
theorem wmul_00 (a b : Int) (a_0 : -9223372036854775808 ≤ a) (a_1 : a ≤ 9223372036854775807) (b_0 : -9223372036854775808 ≤ b) (b_1 : b ≤ 9223372036854775807) (ha : 0 ≤ a) (hb : 0 ≤ b) (w : World) : Calls Try.prog 48 #[.int .i64 a, .int .i64 b] w fun en w' => en = .returned (.agg #[.int .i64 (wh (a * b)), .int .u64 (wl (a * b))]) ∧ Kept w w' := by
  obtain ⟨A, hA⟩ : ∃ A, IntKind.u64.wrap a = A := ⟨_, rfl⟩
  obtain ⟨B, hB⟩ : ∃ B, IntKind.u64.wrap b = B := ⟨_, rfl⟩
  have A0 : 0 ≤ A := by rw [← hA, IntKind.wrap_u64]; omega
  have A1 : A ≤ 18446744073709551615 := by rw [← hA, IntKind.wrap_u64]; omega
  have B0 : 0 ≤ B := by rw [← hB, IntKind.wrap_u64]; omega
  have B1 : B ≤ 18446744073709551615 := by rw [← hB, IntKind.wrap_u64]; omega
  have E := Lib.hid (wm00 a b A B a_0 a_1 b_0 b_1 (by rw [← hA, IntKind.wrap_u64]; omega) (by rw [← hB, IntKind.wrap_u64]; omega))
  go_enter Try.func48, Try.ntmps48
  go_wp2_with (first | (go_at_call 71; refine (mul64_w A B (by omega) (by omega) (by omega) (by omega) _).mono ?_; rintro e w' ⟨rfl, rfl⟩))
  exact bodyPost_ret (v := .agg #[.int .i64 (wrap64 (A * B / 18446744073709551616)), .int .u64 (A * B % 18446744073709551616)]) (by first | (simp [results, Try.results48, go_sem]; done) | (simp (maxDischargeDepth := 7) [results, Try.results48, go_sem, *]; done)) rfl ⟨agg2 E.out.1 E.out.2, (by repeat (first | with_reducible exact Kept.refl _ | with_reducible assumption | with_reducible refine Kept.setCell ?_ (by first | (simp; done) | (simp; omega) | omega) _ | with_reducible refine Kept.alloc ?_ _ | with_reducible refine Kept.drewN ?_ _ | with_reducible refine Kept.drew ?_ | with_reducible refine Kept.trans ?_ (by with_reducible assumption) | with_reducible refine Kept.dr ?_ (by with_reducible assumption)))⟩
theorem wm01 (a b A B : Int) (a_0 : -9223372036854775808 ≤ a) (a_1 : a ≤ 9223372036854775807) (b_0 : -9223372036854775808 ≤ b) (b_1 : b ≤ 9223372036854775807) (hA : A = a) (hB : B = b + 18446744073709551616) : wrap64 (IntKind.u64.wrap (A * B / 18446744073709551616 - A)) = wh (a * b) ∧ A * B % 18446744073709551616 = wl (a * b) := by
  obtain ⟨p0, p1⟩ := sgn_bd a b a_0 a_1 b_0 b_1
  have h : A * B = a * b + 18446744073709551616 * a := by subst hA hB; (try simp only [Int.add_mul, Int.mul_add]); (try omega)
  unfold wh wl wrap64
  (try simp only [IntKind.wrap_u64])
  rw [h]
  generalize a * b = p at *
  clear h
  constructor <;> omega
set_option maxHeartbeats 1000000 in
theorem wmul_01 (a b : Int) (a_0 : -9223372036854775808 ≤ a) (a_1 : a ≤ 9223372036854775807) (b_0 : -9223372036854775808 ≤ b) (b_1 : b ≤ 9223372036854775807) (ha : 0 ≤ a) (hb : b < 0) (w : World) : Calls Try.prog 48 #[.int .i64 a, .int .i64 b] w fun en w' => en = .returned (.agg #[.int .i64 (wh (a * b)), .int .u64 (wl (a * b))]) ∧ Kept w w' := by
  obtain ⟨A, hA⟩ : ∃ A, IntKind.u64.wrap a = A := ⟨_, rfl⟩
  obtain ⟨B, hB⟩ : ∃ B, IntKind.u64.wrap b = B := ⟨_, rfl⟩
  have A0 : 0 ≤ A := by rw [← hA, IntKind.wrap_u64]; omega
  have A1 : A ≤ 18446744073709551615 := by rw [← hA, IntKind.wrap_u64]; omega
  have B0 : 0 ≤ B := by rw [← hB, IntKind.wrap_u64]; omega
  have B1 : B ≤ 18446744073709551615 := by rw [← hB, IntKind.wrap_u64]; omega
  have E := Lib.hid (wm01 a b A B a_0 a_1 b_0 b_1 (by rw [← hA, IntKind.wrap_u64]; omega) (by rw [← hB, IntKind.wrap_u64]; omega))
  go_enter Try.func48, Try.ntmps48
  go_wp2_with (first | (go_at_call 71; refine (mul64_w A B (by omega) (by omega) (by omega) (by omega) _).mono ?_; rintro e w' ⟨rfl, rfl⟩))
  exact bodyPost_ret (v := .agg #[.int .i64 (wrap64 (IntKind.u64.wrap (A * B / 18446744073709551616 - A))), .int .u64 (A * B % 18446744073709551616)]) (by first | (simp [results, Try.results48, go_sem]; done) | (simp (maxDischargeDepth := 7) [results, Try.results48, go_sem, *]; done)) rfl ⟨agg2 E.out.1 E.out.2, (by repeat (first | with_reducible exact Kept.refl _ | with_reducible assumption | with_reducible refine Kept.setCell ?_ (by first | (simp; done) | (simp; omega) | omega) _ | with_reducible refine Kept.alloc ?_ _ | with_reducible refine Kept.drewN ?_ _ | with_reducible refine Kept.drew ?_ | with_reducible refine Kept.trans ?_ (by with_reducible assumption) | with_reducible refine Kept.dr ?_ (by with_reducible assumption)))⟩
theorem wm10 (a b A B : Int) (a_0 : -9223372036854775808 ≤ a) (a_1 : a ≤ 9223372036854775807) (b_0 : -9223372036854775808 ≤ b) (b_1 : b ≤ 9223372036854775807) (hA : A = a + 18446744073709551616) (hB : B = b) : wrap64 (IntKind.u64.wrap (A * B / 18446744073709551616 - B)) = wh (a * b) ∧ A * B % 18446744073709551616 = wl (a * b) := by
  obtain ⟨p0, p1⟩ := sgn_bd a b a_0 a_1 b_0 b_1
  have h : A * B = a * b + 18446744073709551616 * b := by subst hA hB; (try simp only [Int.add_mul, Int.mul_add]); (try omega)
  unfold wh wl wrap64
  (try simp only [IntKind.wrap_u64])
  rw [h]
  generalize a * b = p at *
  clear h
  constructor <;> omega
set_option maxHeartbeats 1000000 in
theorem wmul_10 (a b : Int) (a_0 : -9223372036854775808 ≤ a) (a_1 : a ≤ 9223372036854775807) (b_0 : -9223372036854775808 ≤ b) (b_1 : b ≤ 9223372036854775807) (ha : a < 0) (hb : 0 ≤ b) (w : World) : Calls Try.prog 48 #[.int .i64 a, .int .i64 b] w fun en w' => en = .returned (.agg #[.int .i64 (wh (a * b)), .int .u64 (wl (a * b))]) ∧ Kept w w' := by
  obtain ⟨A, hA⟩ : ∃ A, IntKind.u64.wrap a = A := ⟨_, rfl⟩
  obtain ⟨B, hB⟩ : ∃ B, IntKind.u64.wrap b = B := ⟨_, rfl⟩
  have A0 : 0 ≤ A := by rw [← hA, IntKind.wrap_u64]; omega
  have A1 : A ≤ 18446744073709551615 := by rw [← hA, IntKind.wrap_u64]; omega
  have B0 : 0 ≤ B := by rw [← hB, IntKind.wrap_u64]; omega
  have B1 : B ≤ 18446744073709551615 := by rw [← hB, IntKind.wrap_u64]; omega
  have E := Lib.hid (wm10 a b A B a_0 a_1 b_0 b_1 (by rw [← hA, IntKind.wrap_u64]; omega) (by rw [← hB, IntKind.wrap_u64]; omega))
  go_enter Try.func48, Try.ntmps48
  go_wp2_with (first | (go_at_call 71; refine (mul64_w A B (by omega) (by omega) (by omega) (by omega) _).mono ?_; rintro e w' ⟨rfl, rfl⟩))
  exact bodyPost_ret (v := .agg #[.int .i64 (wrap64 (IntKind.u64.wrap (A * B / 18446744073709551616 - B))), .int .u64 (A * B % 18446744073709551616)]) (by first | (simp [results, Try.results48, go_sem]; done) | (simp (maxDischargeDepth := 7) [results, Try.results48, go_sem, *]; done)) rfl ⟨agg2 E.out.1 E.out.2, (by repeat (first | with_reducible exact Kept.refl _ | with_reducible assumption | with_reducible refine Kept.setCell ?_ (by first | (simp; done) | (simp; omega) | omega) _ | with_reducible refine Kept.alloc ?_ _ | with_reducible refine Kept.drewN ?_ _ | with_reducible refine Kept.drew ?_ | with_reducible refine Kept.trans ?_ (by with_reducible assumption) | with_reducible refine Kept.dr ?_ (by with_reducible assumption)))⟩
theorem wm11 (a b A B : Int) (a_0 : -9223372036854775808 ≤ a) (a_1 : a ≤ 9223372036854775807) (b_0 : -9223372036854775808 ≤ b) (b_1 : b ≤ 9223372036854775807) (hA : A = a + 18446744073709551616) (hB : B = b + 18446744073709551616) : wrap64 (IntKind.u64.wrap (IntKind.u64.wrap (A * B / 18446744073709551616 - B) - A)) = wh (a * b) ∧ A * B % 18446744073709551616 = wl (a * b) := by
  obtain ⟨p0, p1⟩ := sgn_bd a b a_0 a_1 b_0 b_1
  have h : A * B = a * b + 18446744073709551616 * b + 18446744073709551616 * a + 18446744073709551616 * 18446744073709551616 := by subst hA hB; (try simp only [Int.add_mul, Int.mul_add]); (try omega)
  unfold wh wl wrap64
  (try simp only [IntKind.wrap_u64])
  rw [h]
  generalize a * b = p at *
  clear h
  constructor <;> omega
set_option maxHeartbeats 1000000 in
theorem wmul_11 (a b : Int) (a_0 : -9223372036854775808 ≤ a) (a_1 : a ≤ 9223372036854775807) (b_0 : -9223372036854775808 ≤ b) (b_1 : b ≤ 9223372036854775807) (ha : a < 0) (hb : b < 0) (w : World) : Calls Try.prog 48 #[.int .i64 a, .int .i64 b] w fun en w' => en = .returned (.agg #[.int .i64 (wh (a * b)), .int .u64 (wl (a * b))]) ∧ Kept w w' := by
  obtain ⟨A, hA⟩ : ∃ A, IntKind.u64.wrap a = A := ⟨_, rfl⟩
  obtain ⟨B, hB⟩ : ∃ B, IntKind.u64.wrap b = B := ⟨_, rfl⟩
  have A0 : 0 ≤ A := by rw [← hA, IntKind.wrap_u64]; omega
  have A1 : A ≤ 18446744073709551615 := by rw [← hA, IntKind.wrap_u64]; omega
  have B0 : 0 ≤ B := by rw [← hB, IntKind.wrap_u64]; omega
  have B1 : B ≤ 18446744073709551615 := by rw [← hB, IntKind.wrap_u64]; omega
  have E := Lib.hid (wm11 a b A B a_0 a_1 b_0 b_1 (by rw [← hA, IntKind.wrap_u64]; omega) (by rw [← hB, IntKind.wrap_u64]; omega))
  go_enter Try.func48, Try.ntmps48
  go_wp2_with (first | (go_at_call 71; refine (mul64_w A B (by omega) (by omega) (by omega) (by omega) _).mono ?_; rintro e w' ⟨rfl, rfl⟩))
  exact bodyPost_ret (v := .agg #[.int .i64 (wrap64 (IntKind.u64.wrap (IntKind.u64.wrap (A * B / 18446744073709551616 - B) - A))), .int .u64 (A * B % 18446744073709551616)]) (by first | (simp [results, Try.results48, go_sem]; done) | (simp (maxDischargeDepth := 7) [results, Try.results48, go_sem, *]; done)) rfl ⟨agg2 E.out.1 E.out.2, (by repeat (first | with_reducible exact Kept.refl _ | with_reducible assumption | with_reducible refine Kept.setCell ?_ (by first | (simp; done) | (simp; omega) | omega) _ | with_reducible refine Kept.alloc ?_ _ | with_reducible refine Kept.drewN ?_ _ | with_reducible refine Kept.drew ?_ | with_reducible refine Kept.trans ?_ (by with_reducible assumption) | with_reducible refine Kept.dr ?_ (by with_reducible assumption)))⟩
theorem wmul_w (a b : Int) (a_0 : -9223372036854775808 ≤ a) (a_1 : a ≤ 9223372036854775807) (b_0 : -9223372036854775808 ≤ b) (b_1 : b ≤ 9223372036854775807) (w : World) : Calls Try.prog 48 #[.int .i64 a, .int .i64 b] w fun en w' => en = .returned (.agg #[.int .i64 (wh (a * b)), .int .u64 (wl (a * b))]) ∧ Kept w w' := by
  by_cases ha : a < 0 <;> by_cases hb : b < 0
  · exact wmul_11 a b a_0 a_1 b_0 b_1 ha hb w
  · exact wmul_10 a b a_0 a_1 b_0 b_1 ha (by omega) w
  · exact wmul_01 a b a_0 a_1 b_0 b_1 (by omega) hb w
  · exact wmul_00 a b a_0 a_1 b_0 b_1 (by omega) (by omega) w
theorem cmp_lt (u v : Int) (h : u < v) (w : World) : Calls Try.prog 52 #[.agg #[.int .i64 (wh u), .int .u64 (wl u)], .agg #[.int .i64 (wh v), .int .u64 (wl v)]] w fun en w' => en = .returned (.int .i64 (-1)) ∧ Kept w w' := by
  obtain ⟨eu, u0, u1⟩ := wv u
  obtain ⟨ev, v0, v1⟩ := wv v
  generalize wh u = A at *; generalize wl u = a at *; generalize wh v = B at *; generalize wl v = b at *
  by_cases c : A < B
  · have n1 : (A == B) = false := by simpa using (show ¬ A = B by omega)
    clear eu ev
    go_enter Try.func52, Try.ntmps52
    go_wp2_with fail
    go_ret
    exact ⟨rfl, (by repeat (first | with_reducible exact Kept.refl _ | with_reducible assumption | with_reducible refine Kept.setCell ?_ (by first | (simp; done) | (simp; omega) | omega) _ | with_reducible refine Kept.alloc ?_ _ | with_reducible refine Kept.drewN ?_ _ | with_reducible refine Kept.drew ?_ | with_reducible refine Kept.trans ?_ (by with_reducible assumption) | with_reducible refine Kept.dr ?_ (by with_reducible assumption)))⟩
  · have c1 : a < b := by omega
    have c2 : A = B := by omega
    subst c2
    have n1 : (a == b) = false := by simpa using (show ¬ a = b by omega)
    clear eu ev c
    go_enter Try.func52, Try.ntmps52
    go_wp2_with fail
    go_ret
    exact ⟨rfl, (by repeat (first | with_reducible exact Kept.refl _ | with_reducible assumption | with_reducible refine Kept.setCell ?_ (by first | (simp; done) | (simp; omega) | omega) _ | with_reducible refine Kept.alloc ?_ _ | with_reducible refine Kept.drewN ?_ _ | with_reducible refine Kept.drew ?_ | with_reducible refine Kept.trans ?_ (by with_reducible assumption) | with_reducible refine Kept.dr ?_ (by with_reducible assumption)))⟩
theorem cmp_gt (u v : Int) (h : v < u) (w : World) : Calls Try.prog 52 #[.agg #[.int .i64 (wh u), .int .u64 (wl u)], .agg #[.int .i64 (wh v), .int .u64 (wl v)]] w fun en w' => en = .returned (.int .i64 1) ∧ Kept w w' := by
  obtain ⟨eu, u0, u1⟩ := wv u
  obtain ⟨ev, v0, v1⟩ := wv v
  generalize wh u = A at *; generalize wl u = a at *; generalize wh v = B at *; generalize wl v = b at *
  by_cases c : B < A
  · have n1 : (A == B) = false := by simpa using (show ¬ A = B by omega)
    clear eu ev
    go_enter Try.func52, Try.ntmps52
    go_wp2_with fail
    go_ret
    exact ⟨rfl, (by repeat (first | with_reducible exact Kept.refl _ | with_reducible assumption | with_reducible refine Kept.setCell ?_ (by first | (simp; done) | (simp; omega) | omega) _ | with_reducible refine Kept.alloc ?_ _ | with_reducible refine Kept.drewN ?_ _ | with_reducible refine Kept.drew ?_ | with_reducible refine Kept.trans ?_ (by with_reducible assumption) | with_reducible refine Kept.dr ?_ (by with_reducible assumption)))⟩
  · have c1 : b < a := by omega
    have c2 : A = B := by omega
    subst c2
    have n1 : (a == b) = false := by simpa using (show ¬ a = b by omega)
    clear eu ev c
    go_enter Try.func52, Try.ntmps52
    go_wp2_with fail
    go_ret
    exact ⟨rfl, (by repeat (first | with_reducible exact Kept.refl _ | with_reducible assumption | with_reducible refine Kept.setCell ?_ (by first | (simp; done) | (simp; omega) | omega) _ | with_reducible refine Kept.alloc ?_ _ | with_reducible refine Kept.drewN ?_ _ | with_reducible refine Kept.drew ?_ | with_reducible refine Kept.trans ?_ (by with_reducible assumption) | with_reducible refine Kept.dr ?_ (by with_reducible assumption)))⟩
theorem cmp_eq (u : Int) (w : World) : Calls Try.prog 52 #[.agg #[.int .i64 (wh u), .int .u64 (wl u)], .agg #[.int .i64 (wh u), .int .u64 (wl u)]] w fun en w' => en = .returned (.int .i64 0) ∧ Kept w w' := by
  obtain ⟨eu, u0, u1⟩ := wv u
  generalize wh u = A at *; generalize wl u = a at *
  clear eu
  go_enter Try.func52, Try.ntmps52
  go_wp2_with fail
  go_ret
  exact ⟨rfl, (by repeat (first | with_reducible exact Kept.refl _ | with_reducible assumption | with_reducible refine Kept.setCell ?_ (by first | (simp; done) | (simp; omega) | omega) _ | with_reducible refine Kept.alloc ?_ _ | with_reducible refine Kept.drewN ?_ _ | with_reducible refine Kept.drew ?_ | with_reducible refine Kept.trans ?_ (by with_reducible assumption) | with_reducible refine Kept.dr ?_ (by with_reducible assumption)))⟩
theorem of_w (a : Int) (a_0 : -9223372036854775808 ≤ a) (a_1 : a ≤ 9223372036854775807) (w : World) : Calls Try.prog 49 #[.int .i64 a] w fun en w' => en = .returned (.agg #[.int .i64 (wh a), .int .u64 (wl a)]) ∧ Kept w w' := by
  go_enter Try.func49, Try.ntmps49
  go_wp2_with fail
  exact bodyPost_ret (v := .agg #[.int .i64 (a / 9223372036854775808), .int .u64 (IntKind.u64.wrap a)]) (by first | (simp [results, Try.results49, go_sem]; done) | (simp (maxDischargeDepth := 7) [results, Try.results49, go_sem, *]; done)) rfl ⟨agg2 (by unfold wh; omega) (by rw [IntKind.wrap_u64]; rfl), (by repeat (first | with_reducible exact Kept.refl _ | with_reducible assumption | with_reducible refine Kept.setCell ?_ (by first | (simp; done) | (simp; omega) | omega) _ | with_reducible refine Kept.alloc ?_ _ | with_reducible refine Kept.drewN ?_ _ | with_reducible refine Kept.drew ?_ | with_reducible refine Kept.trans ?_ (by with_reducible assumption) | with_reducible refine Kept.dr ?_ (by with_reducible assumption)))⟩
theorem wrap_wl (v : Int) (v_0 : -9223372036854775808 ≤ v) (v_1 : v ≤ 9223372036854775807) : wrap64 (wl v) = v := by unfold wrap64 wl; omega
theorem int_ok (v : Int) (v_0 : -9223372036854775808 ≤ v) (v_1 : v ≤ 9223372036854775807) (w : World) : Calls Try.prog 47 #[.agg #[.int .i64 (wh v), .int .u64 (wl v)]] w fun en w' => en = .returned (.tuple #[.int .i64 v, .bool true]) ∧ Kept w w' := by
  obtain ⟨_, u0, u1⟩ := wv v
  obtain ⟨c, hc⟩ : ∃ c, wrap64 (wl v) = c := ⟨_, rfl⟩
  have hv : c = v := by rw [← hc]; exact wrap_wl v v_0 v_1
  have c0 : -9223372036854775808 ≤ c := by omega
  have c1 : c ≤ 9223372036854775807 := by omega
  have e2 : wl c = wl v := by rw [hv]
  have e3 : wh c = wh v := by rw [hv]
  generalize wl v = L at *
  generalize wh v = H at *
  have HV := Lib.hid hv
  clear hv v_0 v_1
  go_enter Try.func47, Try.ntmps47
  go_wp2_with fail
  first | (go_region_held3 (fun W => W.cell? ⟨w.heap.size, 0, none⟩ = some (.int .i64 H) ∧ W.cell? ⟨w.heap.size, 1, none⟩ = some (.int .u64 L)) (go_keep) (first | (go_at_call 49; refine (of_w c (by omega) (by omega) _).mono ?_; rintro e w' ⟨rfl, hk⟩; refine kuse (b := w.heap.size) hk (by first | (simp; done) | (simp; omega) | omega) ?_; intro hq hg; have hy : w.heap.size < w'.heap.size := (by have := hk.size; (try simp at this); omega)))) | fail
  all_goals go_wp2_with fail
  all_goals go_ret2
  refine ⟨?_, (by repeat (first | with_reducible exact Kept.refl _ | with_reducible assumption | with_reducible refine Kept.setCell ?_ (by first | (simp; done) | (simp; omega) | omega) _ | with_reducible refine Kept.alloc ?_ _ | with_reducible refine Kept.drewN ?_ _ | with_reducible refine Kept.drew ?_ | with_reducible refine Kept.trans ?_ (by with_reducible assumption) | with_reducible refine Kept.dr ?_ (by with_reducible assumption)))⟩
  show Ending.returned (.tuple #[.int .i64 c, .bool true]) = _
  rw [HV.out]
theorem int_no (v : Int) (h : v < -9223372036854775808 ∨ 9223372036854775807 < v) (w : World) : Calls Try.prog 47 #[.agg #[.int .i64 (wh v), .int .u64 (wl v)]] w fun en w' => en = .returned (.tuple #[.int .i64 0, .bool false]) ∧ Kept w w' := by
  obtain ⟨eu, u0, u1⟩ := wv v
  obtain ⟨c, hc⟩ : ∃ c, wrap64 (wl v) = c := ⟨_, rfl⟩
  have c0 : -9223372036854775808 ≤ c := by rw [← hc]; unfold wrap64; omega
  have c1 : c ≤ 9223372036854775807 := by rw [← hc]; unfold wrap64; omega
  have e2 : wl c = wl v := by rw [← hc]; unfold wrap64 wl; omega
  have n1 : ¬ wh v = wh c := by
    obtain ⟨ec, _, _⟩ := wv c
    intro k
    rw [k, ← e2] at eu
    omega
  generalize wl v = L at *
  generalize wh v = H at *
  have n2 : (H == wh c) = false := by simpa using n1
  clear eu n1 h
  go_enter Try.func47, Try.ntmps47
  go_wp2_with fail
  first | (go_region_held3 (fun W => W.cell? ⟨w.heap.size, 0, none⟩ = some (.int .i64 H) ∧ W.cell? ⟨w.heap.size, 1, none⟩ = some (.int .u64 L)) (go_keep) (first | (go_at_call 49; refine (of_w c (by omega) (by omega) _).mono ?_; rintro e w' ⟨rfl, hk⟩; refine kuse (b := w.heap.size) hk (by first | (simp; done) | (simp; omega) | omega) ?_; intro hq hg; have hy : w.heap.size < w'.heap.size := (by have := hk.size; (try simp at this); omega)))) | fail
  all_goals go_wp2_with fail
  all_goals go_ret2
  exact ⟨rfl, (by repeat (first | with_reducible exact Kept.refl _ | with_reducible assumption | with_reducible refine Kept.setCell ?_ (by first | (simp; done) | (simp; omega) | omega) _ | with_reducible refine Kept.alloc ?_ _ | with_reducible refine Kept.drewN ?_ _ | with_reducible refine Kept.drew ?_ | with_reducible refine Kept.trans ?_ (by with_reducible assumption) | with_reducible refine Kept.dr ?_ (by with_reducible assumption)))⟩
theorem wmag_neg (u : Int) (h : u < 0) : wmag u = -u := by unfold wmag; rw [if_pos h]
theorem wmag_pos (u : Int) (h : ¬ u < 0) : wmag u = u := by unfold wmag; rw [if_neg h]
set_option maxHeartbeats 2000000 in
set_option maxRecDepth 100000 in
theorem size_w (u : Int) (u0 : -170141183460469231731687303715884105728 ≤ u) (u1 : u < 170141183460469231731687303715884105728) (w : World) : Calls Try.prog 76 #[.agg #[.int .i64 (wh (u)), .int .u64 (wl (u))]] w fun e w' => e = .returned (.agg #[.int .u64 (wh (wmag u)), .int .u64 (wl (wmag u))]) ∧ Kept w w' := by
  obtain ⟨eu, a0, a1⟩ := wv u
  have A0 : -9223372036854775808 ≤ wh u := by unfold wh; omega
  have A1 : wh u ≤ 9223372036854775807 := by unfold wh; omega
  by_cases c : u < 0
  · rw [wmag_neg u c]
    have A2 : wh u < 0 := by unfold wh; omega
    obtain ⟨r, hr⟩ : ∃ r, -u = r := ⟨_, rfl⟩
    obtain ⟨X, hX⟩ : ∃ X, IntKind.u64.wrap (wh u) = X := ⟨_, rfl⟩
    have kX : X = wh u + 18446744073709551616 := by rw [← hX, IntKind.wrap_u64]; omega
    generalize wh u = A at *; generalize wl u = a at *
    rw [hr]
    have X0 : 0 ≤ X := by omega
    have X1 : X ≤ 18446744073709551615 := by omega
    have hm : (0 * 18446744073709551616 + 0 - (X * 18446744073709551616 + a)) % 340282366920938463463374607431768211456 = r := by omega
    have HM := Lib.hid hm
    clear hm hr kX eu u0 u1 c
    go_enter Try.func76, Try.ntmps76
    go_wp2_with fail
    with_reducible refine (minus_c 0 0 X a r (by omega) (by omega) (by omega) (by omega) X0 X1 a0 a1 HM.out _).mono ?_
    rintro e w1 ⟨rfl, hk1⟩
    refine kuse (b := w.heap.size) hk1 (by first | (simp; done) | (simp; omega) | omega) ?_
    intro ha hb
    have hz1_0 : w.heap.size < w1.heap.size := by have := hk1.size; (try simp at this); omega
    have hn1_0 : ¬ w.heap.size = w1.heap.size := by omega
    have hm1_0 : ¬ w1.heap.size = w.heap.size := by omega
    have hf1_0_0 : w1.cell? ⟨w.heap.size, 0, none⟩ = some (.int .i64 A) := by first | (rw [ha]; with_reducible assumption) | (simp (maxDischargeDepth := 7) [go_sem, ha]; done) | (rw [ha]; assumption) | (simp (maxDischargeDepth := 7) [go_sem, ha, *]; done)
    have hf1_0_1 : w1.cell? ⟨w.heap.size, 1, none⟩ = some (.int .u64 a) := by first | (rw [ha]; with_reducible assumption) | (simp (maxDischargeDepth := 7) [go_sem, ha]; done) | (rw [ha]; assumption) | (simp (maxDischargeDepth := 7) [go_sem, ha, *]; done)
    try have hg1_0 : ∀ o, w1.frozen? ⟨w.heap.size, o, none⟩ = false := by intro o; first | (simp (maxDischargeDepth := 7) [go_sem, hb]; done) | (rw [hb]; simp (maxDischargeDepth := 7) [go_sem, *]; done)
    clear ha hb
    refine kuse (b := w.heap.size + 1) hk1 (by first | (simp; done) | (simp; omega) | omega) ?_
    intro ha hb
    have hz1_1 : w.heap.size + 1 < w1.heap.size := by have := hk1.size; (try simp at this); omega
    have hn1_1 : ¬ w.heap.size + 1 = w1.heap.size := by omega
    have hm1_1 : ¬ w1.heap.size = w.heap.size + 1 := by omega
    have hf1_1_0 : w1.cell? ⟨w.heap.size + 1, 0, none⟩ = some (.int .u64 0) := by first | (rw [ha]; with_reducible assumption) | (simp (maxDischargeDepth := 7) [go_sem, ha]; done) | (rw [ha]; assumption) | (simp (maxDischargeDepth := 7) [go_sem, ha, *]; done)
    have hf1_1_1 : w1.cell? ⟨w.heap.size + 1, 1, none⟩ = some (.int .u64 0) := by first | (rw [ha]; with_reducible assumption) | (simp (maxDischargeDepth := 7) [go_sem, ha]; done) | (rw [ha]; assumption) | (simp (maxDischargeDepth := 7) [go_sem, ha, *]; done)
    try have hg1_1 : ∀ o, w1.frozen? ⟨w.heap.size + 1, o, none⟩ = false := by intro o; first | (simp (maxDischargeDepth := 7) [go_sem, hb]; done) | (rw [hb]; simp (maxDischargeDepth := 7) [go_sem, *]; done)
    clear ha hb
    refine kuse (b := w.heap.size + 2) hk1 (by first | (simp; done) | (simp; omega) | omega) ?_
    intro ha hb
    have hz1_2 : w.heap.size + 2 < w1.heap.size := by have := hk1.size; (try simp at this); omega
    have hn1_2 : ¬ w.heap.size + 2 = w1.heap.size := by omega
    have hm1_2 : ¬ w1.heap.size = w.heap.size + 2 := by omega
    have hf1_2_0 : w1.cell? ⟨w.heap.size + 2, 0, none⟩ = some (.int .u64 X) := by first | (rw [ha]; with_reducible assumption) | (simp (maxDischargeDepth := 7) [go_sem, ha]; done) | (rw [ha]; assumption) | (simp (maxDischargeDepth := 7) [go_sem, ha, *]; done)
    have hf1_2_1 : w1.cell? ⟨w.heap.size + 2, 1, none⟩ = some (.int .u64 a) := by first | (rw [ha]; with_reducible assumption) | (simp (maxDischargeDepth := 7) [go_sem, ha]; done) | (rw [ha]; assumption) | (simp (maxDischargeDepth := 7) [go_sem, ha, *]; done)
    try have hg1_2 : ∀ o, w1.frozen? ⟨w.heap.size + 2, o, none⟩ = false := by intro o; first | (simp (maxDischargeDepth := 7) [go_sem, hb]; done) | (rw [hb]; simp (maxDischargeDepth := 7) [go_sem, *]; done)
    clear ha hb
    go_wp2_with fail
    all_goals exact bodyPost_ret (v := .agg #[.int .u64 (wh (r)), .int .u64 (wl (r))]) (by first | (simp [results, Try.results76, go_sem]; done) | (simp (maxDischargeDepth := 7) [results, Try.results76, go_sem, *]; done)) rfl ⟨rfl, (by repeat (first | with_reducible exact Kept.refl _ | with_reducible assumption | with_reducible refine Kept.setCell ?_ (by first | (simp; done) | (simp; omega) | omega) _ | with_reducible refine Kept.alloc ?_ _ | with_reducible refine Kept.drewN ?_ _ | with_reducible refine Kept.drew ?_ | with_reducible refine Kept.trans ?_ (by with_reducible assumption) | with_reducible refine Kept.dr ?_ (by with_reducible assumption)))⟩
  · rw [wmag_pos u c]
    have A2 : ¬ wh u < 0 := by unfold wh; omega
    have A3 : 0 ≤ wh u := by omega
    generalize wh u = A at *; generalize wl u = a at *
    clear eu u0 u1 c
    go_enter Try.func76, Try.ntmps76
    go_wp2_with fail
    exact bodyPost_ret (v := .agg #[.int .u64 (A), .int .u64 (a)]) (by first | (simp [results, Try.results76, go_sem]; done) | (simp (maxDischargeDepth := 7) [results, Try.results76, go_sem, *]; done)) rfl ⟨rfl, (by repeat (first | with_reducible exact Kept.refl _ | with_reducible assumption | with_reducible refine Kept.setCell ?_ (by first | (simp; done) | (simp; omega) | omega) _ | with_reducible refine Kept.alloc ?_ _ | with_reducible refine Kept.drewN ?_ _ | with_reducible refine Kept.drew ?_ | with_reducible refine Kept.trans ?_ (by with_reducible assumption) | with_reducible refine Kept.dr ?_ (by with_reducible assumption)))⟩
theorem agg2e {a b c d : Int} {x y : Bool} (h : a = c ∧ b = d) (h3 : x = y) : Ending.returned (.tuple #[.agg #[.int .i64 a, .int .u64 b], .bool x]) = .returned (.tuple #[.agg #[.int .i64 c, .int .u64 d], .bool y]) := by rw [h.1, h.2, h3]
theorem wh127 : wh 170141183460469231731687303715884105728 = 9223372036854775808 := by decide
theorem wl127 : wl 170141183460469231731687303715884105728 = 0 := by decide
set_option maxHeartbeats 2000000 in
set_option maxRecDepth 100000 in
theorem signed_0 (m : Int) (m0 : 0 ≤ m) (m1 : m < 340282366920938463463374607431768211456) (w : World) : Calls Try.prog 87 #[.agg #[.int .u64 (wh (m)), .int .u64 (wl (m))], .bool false] w fun e w' => e = .returned (.tuple #[.agg #[.int .i64 (wh (wval (sgd false m))), .int .u64 (wl (wval (sgd false m)))], .bool (wfit (sgd false m))]) ∧ Kept w w' := by
  obtain ⟨em, a0, a1⟩ := wv m
  have A0 : 0 ≤ wh m := by unfold wh; omega
  have A1 : wh m ≤ 18446744073709551615 := by unfold wh; omega
  have L1 : m ≤ 170141183460469231731687303715884105728 → ∀ w, Calls Try.prog 75 #[.agg #[.int .u64 9223372036854775808, .int .u64 0], .agg #[.int .u64 (wh m), .int .u64 (wl m)]] w fun e w' => e = .returned (.bool false) ∧ Kept w w' := fun h w => by have := less_no 170141183460469231731687303715884105728 m h w; rw [wh127, wl127] at this; exact this
  have L2 : 170141183460469231731687303715884105728 < m → ∀ w, Calls Try.prog 75 #[.agg #[.int .u64 9223372036854775808, .int .u64 0], .agg #[.int .u64 (wh m), .int .u64 (wl m)]] w fun e w' => e = .returned (.bool true) ∧ Kept w w' := fun h w => by have := less_yes 170141183460469231731687303715884105728 m h w; rw [wh127, wl127] at this; exact this
  by_cases c : 170141183460469231731687303715884105728 < m
  · have e3 := wfit_no (u := sgd false m) (by unfold sgd; rw [if_neg (by decide)]; omega)
    rw [e3.2, e3.1]
    clear e3
    have L := L2 c
    clear L1 L2
    have HL := Lib.hid L
    clear L
    generalize wh m = A at *; generalize wl m = a at *
    clear em m0 m1 c
    go_enter Try.func87, Try.ntmps87
    go_wp2_with fail
    with_reducible refine (HL.out _).mono ?_
    rintro e w1 ⟨rfl, hk1⟩
    refine kuse (b := w.heap.size) hk1 (by first | (simp; done) | (simp; omega) | omega) ?_
    intro ha hb
    have hz1_0 : w.heap.size < w1.heap.size := by have := hk1.size; (try simp at this); omega
    have hn1_0 : ¬ w.heap.size = w1.heap.size := by omega
    have hm1_0 : ¬ w1.heap.size = w.heap.size := by omega
    have hf1_0_0 : w1.cell? ⟨w.heap.size, 0, none⟩ = some (.int .u64 A) := by first | (rw [ha]; with_reducible assumption) | (simp (maxDischargeDepth := 7) [go_sem, ha]; done) | (rw [ha]; assumption) | (simp (maxDischargeDepth := 7) [go_sem, ha, *]; done)
    have hf1_0_1 : w1.cell? ⟨w.heap.size, 1, none⟩ = some (.int .u64 a) := by first | (rw [ha]; with_reducible assumption) | (simp (maxDischargeDepth := 7) [go_sem, ha]; done) | (rw [ha]; assumption) | (simp (maxDischargeDepth := 7) [go_sem, ha, *]; done)
    try have hg1_0 : ∀ o, w1.frozen? ⟨w.heap.size, o, none⟩ = false := by intro o; first | (simp (maxDischargeDepth := 7) [go_sem, hb]; done) | (rw [hb]; simp (maxDischargeDepth := 7) [go_sem, *]; done)
    clear ha hb
    refine kuse (b := w.heap.size + 1) hk1 (by first | (simp; done) | (simp; omega) | omega) ?_
    intro ha hb
    have hz1_1 : w.heap.size + 1 < w1.heap.size := by have := hk1.size; (try simp at this); omega
    have hn1_1 : ¬ w.heap.size + 1 = w1.heap.size := by omega
    have hm1_1 : ¬ w1.heap.size = w.heap.size + 1 := by omega
    have hf1_1_0 : w1.cell? ⟨w.heap.size + 1, 0, none⟩ = some (.int .i64 0) := by first | (rw [ha]; with_reducible assumption) | (simp (maxDischargeDepth := 7) [go_sem, ha]; done) | (rw [ha]; assumption) | (simp (maxDischargeDepth := 7) [go_sem, ha, *]; done)
    have hf1_1_1 : w1.cell? ⟨w.heap.size + 1, 1, none⟩ = some (.int .u64 0) := by first | (rw [ha]; with_reducible assumption) | (simp (maxDischargeDepth := 7) [go_sem, ha]; done) | (rw [ha]; assumption) | (simp (maxDischargeDepth := 7) [go_sem, ha, *]; done)
    try have hg1_1 : ∀ o, w1.frozen? ⟨w.heap.size + 1, o, none⟩ = false := by intro o; first | (simp (maxDischargeDepth := 7) [go_sem, hb]; done) | (rw [hb]; simp (maxDischargeDepth := 7) [go_sem, *]; done)
    clear ha hb
    refine kuse (b := w.heap.size + 2) hk1 (by first | (simp; done) | (simp; omega) | omega) ?_
    intro ha hb
    have hz1_2 : w.heap.size + 2 < w1.heap.size := by have := hk1.size; (try simp at this); omega
    have hn1_2 : ¬ w.heap.size + 2 = w1.heap.size := by omega
    have hm1_2 : ¬ w1.heap.size = w.heap.size + 2 := by omega
    have hf1_2_0 : w1.cell? ⟨w.heap.size + 2, 0, none⟩ = some (.int .u64 9223372036854775808) := by first | (rw [ha]; with_reducible assumption) | (simp (maxDischargeDepth := 7) [go_sem, ha]; done) | (rw [ha]; assumption) | (simp (maxDischargeDepth := 7) [go_sem, ha, *]; done)
    have hf1_2_1 : w1.cell? ⟨w.heap.size + 2, 1, none⟩ = some (.int .u64 0) := by first | (rw [ha]; with_reducible assumption) | (simp (maxDischargeDepth := 7) [go_sem, ha]; done) | (rw [ha]; assumption) | (simp (maxDischargeDepth := 7) [go_sem, ha, *]; done)
    try have hg1_2 : ∀ o, w1.frozen? ⟨w.heap.size + 2, o, none⟩ = false := by intro o; first | (simp (maxDischargeDepth := 7) [go_sem, hb]; done) | (rw [hb]; simp (maxDischargeDepth := 7) [go_sem, *]; done)
    clear ha hb
    go_wp2_with fail
    all_goals exact bodyPost_ret (v := .tuple #[.agg #[.int .i64 0, .int .u64 0], .bool false]) (by first | (simp [results, Try.results87, go_sem]; done) | (simp (maxDischargeDepth := 7) [results, Try.results87, go_sem, *]; done)) rfl ⟨rfl, (by repeat (first | with_reducible exact Kept.refl _ | with_reducible assumption | with_reducible refine Kept.setCell ?_ (by first | (simp; done) | (simp; omega) | omega) _ | with_reducible refine Kept.alloc ?_ _ | with_reducible refine Kept.drewN ?_ _ | with_reducible refine Kept.drew ?_ | with_reducible refine Kept.trans ?_ (by with_reducible assumption) | with_reducible refine Kept.dr ?_ (by with_reducible assumption)))⟩
  by_cases c2 : m = 170141183460469231731687303715884105728
  · have e3 := wfit_no (u := sgd false m) (by unfold sgd; rw [if_neg (by decide)]; omega)
    rw [e3.2, e3.1]
    clear e3
    have x1 : wh m = 9223372036854775808 := by unfold wh; omega
    have x2 : wl m = 0 := by unfold wl; omega
    have HL := Lib.hid (L1 (by omega))
    rw [x1, x2] at HL
    rw [x1, x2]
    clear L1 L2 x1 x2 A0 A1 a0 a1 em m0 m1 c c2
    go_enter Try.func87, Try.ntmps87
    go_wp2_with fail
    with_reducible refine (HL.out _).mono ?_
    rintro e w1 ⟨rfl, hk1⟩
    refine kuse (b := w.heap.size) hk1 (by first | (simp; done) | (simp; omega) | omega) ?_
    intro ha hb
    have hz1_0 : w.heap.size < w1.heap.size := by have := hk1.size; (try simp at this); omega
    have hn1_0 : ¬ w.heap.size = w1.heap.size := by omega
    have hm1_0 : ¬ w1.heap.size = w.heap.size := by omega
    have hf1_0_0 : w1.cell? ⟨w.heap.size, 0, none⟩ = some (.int .u64 9223372036854775808) := by first | (rw [ha]; with_reducible assumption) | (simp (maxDischargeDepth := 7) [go_sem, ha]; done) | (rw [ha]; assumption) | (simp (maxDischargeDepth := 7) [go_sem, ha, *]; done)
    have hf1_0_1 : w1.cell? ⟨w.heap.size, 1, none⟩ = some (.int .u64 0) := by first | (rw [ha]; with_reducible assumption) | (simp (maxDischargeDepth := 7) [go_sem, ha]; done) | (rw [ha]; assumption) | (simp (maxDischargeDepth := 7) [go_sem, ha, *]; done)
    try have hg1_0 : ∀ o, w1.frozen? ⟨w.heap.size, o, none⟩ = false := by intro o; first | (simp (maxDischargeDepth := 7) [go_sem, hb]; done) | (rw [hb]; simp (maxDischargeDepth := 7) [go_sem, *]; done)
    clear ha hb
    refine kuse (b := w.heap.size + 1) hk1 (by first | (simp; done) | (simp; omega) | omega) ?_
    intro ha hb
    have hz1_1 : w.heap.size + 1 < w1.heap.size := by have := hk1.size; (try simp at this); omega
    have hn1_1 : ¬ w.heap.size + 1 = w1.heap.size := by omega
    have hm1_1 : ¬ w1.heap.size = w.heap.size + 1 := by omega
    have hf1_1_0 : w1.cell? ⟨w.heap.size + 1, 0, none⟩ = some (.int .i64 0) := by first | (rw [ha]; with_reducible assumption) | (simp (maxDischargeDepth := 7) [go_sem, ha]; done) | (rw [ha]; assumption) | (simp (maxDischargeDepth := 7) [go_sem, ha, *]; done)
    have hf1_1_1 : w1.cell? ⟨w.heap.size + 1, 1, none⟩ = some (.int .u64 0) := by first | (rw [ha]; with_reducible assumption) | (simp (maxDischargeDepth := 7) [go_sem, ha]; done) | (rw [ha]; assumption) | (simp (maxDischargeDepth := 7) [go_sem, ha, *]; done)
    try have hg1_1 : ∀ o, w1.frozen? ⟨w.heap.size + 1, o, none⟩ = false := by intro o; first | (simp (maxDischargeDepth := 7) [go_sem, hb]; done) | (rw [hb]; simp (maxDischargeDepth := 7) [go_sem, *]; done)
    clear ha hb
    refine kuse (b := w.heap.size + 2) hk1 (by first | (simp; done) | (simp; omega) | omega) ?_
    intro ha hb
    have hz1_2 : w.heap.size + 2 < w1.heap.size := by have := hk1.size; (try simp at this); omega
    have hn1_2 : ¬ w.heap.size + 2 = w1.heap.size := by omega
    have hm1_2 : ¬ w1.heap.size = w.heap.size + 2 := by omega
    have hf1_2_0 : w1.cell? ⟨w.heap.size + 2, 0, none⟩ = some (.int .u64 9223372036854775808) := by first | (rw [ha]; with_reducible assumption) | (simp (maxDischargeDepth := 7) [go_sem, ha]; done) | (rw [ha]; assumption) | (simp (maxDischargeDepth := 7) [go_sem, ha, *]; done)
    have hf1_2_1 : w1.cell? ⟨w.heap.size + 2, 1, none⟩ = some (.int .u64 0) := by first | (rw [ha]; with_reducible assumption) | (simp (maxDischargeDepth := 7) [go_sem, ha]; done) | (rw [ha]; assumption) | (simp (maxDischargeDepth := 7) [go_sem, ha, *]; done)
    try have hg1_2 : ∀ o, w1.frozen? ⟨w.heap.size + 2, o, none⟩ = false := by intro o; first | (simp (maxDischargeDepth := 7) [go_sem, hb]; done) | (rw [hb]; simp (maxDischargeDepth := 7) [go_sem, *]; done)
    clear ha hb
    go_wp2_with fail
    all_goals exact bodyPost_ret (v := .tuple #[.agg #[.int .i64 0, .int .u64 0], .bool false]) (by first | (simp [results, Try.results87, go_sem]; done) | (simp (maxDischargeDepth := 7) [results, Try.results87, go_sem, *]; done)) rfl ⟨rfl, (by repeat (first | with_reducible exact Kept.refl _ | with_reducible assumption | with_reducible refine Kept.setCell ?_ (by first | (simp; done) | (simp; omega) | omega) _ | with_reducible refine Kept.alloc ?_ _ | with_reducible refine Kept.drewN ?_ _ | with_reducible refine Kept.drew ?_ | with_reducible refine Kept.trans ?_ (by with_reducible assumption) | with_reducible refine Kept.dr ?_ (by with_reducible assumption)))⟩
  · have e3 := wfit_yes (u := sgd false m) (by unfold sgd; rw [if_neg (by decide)]; omega) (by unfold sgd; rw [if_neg (by decide)]; omega)
    rw [e3.2, e3.1]
    clear e3
    have ne : (wh m == 9223372036854775808) = false := by
      rw [beq_eq_false_iff_ne]
      unfold wh
      omega
    have HL := Lib.hid (L1 (by omega))
    clear L1 L2
    have v1 : wrap64 (wh m) = wh (sgd false m) := by unfold sgd wh wrap64; rw [if_neg (by decide)]; omega
    have v2 : wl m = wl (sgd false m) := by unfold sgd; rw [if_neg (by decide)]
    have E := Lib.hid (And.intro v1 v2)
    clear v1 v2 em
    generalize hA : wh m = A at *; generalize ha : wl m = a at *
    clear m0 m1 c c2 hA ha
    go_enter Try.func87, Try.ntmps87
    go_wp2_with fail
    with_reducible refine (HL.out _).mono ?_
    rintro e w1 ⟨rfl, hk1⟩
    refine kuse (b := w.heap.size) hk1 (by first | (simp; done) | (simp; omega) | omega) ?_
    intro ha hb
    have hz1_0 : w.heap.size < w1.heap.size := by have := hk1.size; (try simp at this); omega
    have hn1_0 : ¬ w.heap.size = w1.heap.size := by omega
    have hm1_0 : ¬ w1.heap.size = w.heap.size := by omega
    have hf1_0_0 : w1.cell? ⟨w.heap.size, 0, none⟩ = some (.int .u64 A) := by first | (rw [ha]; with_reducible assumption) | (simp (maxDischargeDepth := 7) [go_sem, ha]; done) | (rw [ha]; assumption) | (simp (maxDischargeDepth := 7) [go_sem, ha, *]; done)
    have hf1_0_1 : w1.cell? ⟨w.heap.size, 1, none⟩ = some (.int .u64 a) := by first | (rw [ha]; with_reducible assumption) | (simp (maxDischargeDepth := 7) [go_sem, ha]; done) | (rw [ha]; assumption) | (simp (maxDischargeDepth := 7) [go_sem, ha, *]; done)
    try have hg1_0 : ∀ o, w1.frozen? ⟨w.heap.size, o, none⟩ = false := by intro o; first | (simp (maxDischargeDepth := 7) [go_sem, hb]; done) | (rw [hb]; simp (maxDischargeDepth := 7) [go_sem, *]; done)
    clear ha hb
    refine kuse (b := w.heap.size + 1) hk1 (by first | (simp; done) | (simp; omega) | omega) ?_
    intro ha hb
    have hz1_1 : w.heap.size + 1 < w1.heap.size := by have := hk1.size; (try simp at this); omega
    have hn1_1 : ¬ w.heap.size + 1 = w1.heap.size := by omega
    have hm1_1 : ¬ w1.heap.size = w.heap.size + 1 := by omega
    have hf1_1_0 : w1.cell? ⟨w.heap.size + 1, 0, none⟩ = some (.int .i64 0) := by first | (rw [ha]; with_reducible assumption) | (simp (maxDischargeDepth := 7) [go_sem, ha]; done) | (rw [ha]; assumption) | (simp (maxDischargeDepth := 7) [go_sem, ha, *]; done)
    have hf1_1_1 : w1.cell? ⟨w.heap.size + 1, 1, none⟩ = some (.int .u64 0) := by first | (rw [ha]; with_reducible assumption) | (simp (maxDischargeDepth := 7) [go_sem, ha]; done) | (rw [ha]; assumption) | (simp (maxDischargeDepth := 7) [go_sem, ha, *]; done)
    try have hg1_1 : ∀ o, w1.frozen? ⟨w.heap.size + 1, o, none⟩ = false := by intro o; first | (simp (maxDischargeDepth := 7) [go_sem, hb]; done) | (rw [hb]; simp (maxDischargeDepth := 7) [go_sem, *]; done)
    clear ha hb
    refine kuse (b := w.heap.size + 2) hk1 (by first | (simp; done) | (simp; omega) | omega) ?_
    intro ha hb
    have hz1_2 : w.heap.size + 2 < w1.heap.size := by have := hk1.size; (try simp at this); omega
    have hn1_2 : ¬ w.heap.size + 2 = w1.heap.size := by omega
    have hm1_2 : ¬ w1.heap.size = w.heap.size + 2 := by omega
    have hf1_2_0 : w1.cell? ⟨w.heap.size + 2, 0, none⟩ = some (.int .u64 9223372036854775808) := by first | (rw [ha]; with_reducible assumption) | (simp (maxDischargeDepth := 7) [go_sem, ha]; done) | (rw [ha]; assumption) | (simp (maxDischargeDepth := 7) [go_sem, ha, *]; done)
    have hf1_2_1 : w1.cell? ⟨w.heap.size + 2, 1, none⟩ = some (.int .u64 0) := by first | (rw [ha]; with_reducible assumption) | (simp (maxDischargeDepth := 7) [go_sem, ha]; done) | (rw [ha]; assumption) | (simp (maxDischargeDepth := 7) [go_sem, ha, *]; done)
    try have hg1_2 : ∀ o, w1.frozen? ⟨w.heap.size + 2, o, none⟩ = false := by intro o; first | (simp (maxDischargeDepth := 7) [go_sem, hb]; done) | (rw [hb]; simp (maxDischargeDepth := 7) [go_sem, *]; done)
    clear ha hb
    go_wp2_with fail
    exact bodyPost_ret (v := .tuple #[.agg #[.int .i64 (wrap64 A), .int .u64 a], .bool true]) (by first | (simp [results, Try.results87, go_sem]; done) | (simp (maxDischargeDepth := 7) [results, Try.results87, go_sem, *]; done)) rfl ⟨agg2e E.out rfl, (by repeat (first | with_reducible exact Kept.refl _ | with_reducible assumption | with_reducible refine Kept.setCell ?_ (by first | (simp; done) | (simp; omega) | omega) _ | with_reducible refine Kept.alloc ?_ _ | with_reducible refine Kept.drewN ?_ _ | with_reducible refine Kept.drew ?_ | with_reducible refine Kept.trans ?_ (by with_reducible assumption) | with_reducible refine Kept.dr ?_ (by with_reducible assumption)))⟩
set_option maxHeartbeats 2000000 in
set_option maxRecDepth 100000 in
theorem signed_1 (m : Int) (m0 : 0 ≤ m) (m1 : m < 340282366920938463463374607431768211456) (w : World) : Calls Try.prog 87 #[.agg #[.int .u64 (wh (m)), .int .u64 (wl (m))], .bool true] w fun e w' => e = .returned (.tuple #[.agg #[.int .i64 (wh (wval (sgd true m))), .int .u64 (wl (wval (sgd true m)))], .bool (wfit (sgd true m))]) ∧ Kept w w' := by
  obtain ⟨em, a0, a1⟩ := wv m
  have A0 : 0 ≤ wh m := by unfold wh; omega
  have A1 : wh m ≤ 18446744073709551615 := by unfold wh; omega
  have L1 : m ≤ 170141183460469231731687303715884105728 → ∀ w, Calls Try.prog 75 #[.agg #[.int .u64 9223372036854775808, .int .u64 0], .agg #[.int .u64 (wh m), .int .u64 (wl m)]] w fun e w' => e = .returned (.bool false) ∧ Kept w w' := fun h w => by have := less_no 170141183460469231731687303715884105728 m h w; rw [wh127, wl127] at this; exact this
  have L2 : 170141183460469231731687303715884105728 < m → ∀ w, Calls Try.prog 75 #[.agg #[.int .u64 9223372036854775808, .int .u64 0], .agg #[.int .u64 (wh m), .int .u64 (wl m)]] w fun e w' => e = .returned (.bool true) ∧ Kept w w' := fun h w => by have := less_yes 170141183460469231731687303715884105728 m h w; rw [wh127, wl127] at this; exact this
  by_cases c : 170141183460469231731687303715884105728 < m
  · have e3 := wfit_no (u := sgd true m) (by unfold sgd; rw [if_pos rfl]; omega)
    rw [e3.2, e3.1]
    clear e3
    have L := L2 c
    clear L1 L2
    have HL := Lib.hid L
    clear L
    generalize wh m = A at *; generalize wl m = a at *
    clear em m0 m1 c
    go_enter Try.func87, Try.ntmps87
    go_wp2_with fail
    with_reducible refine (HL.out _).mono ?_
    rintro e w1 ⟨rfl, hk1⟩
    refine kuse (b := w.heap.size) hk1 (by first | (simp; done) | (simp; omega) | omega) ?_
    intro ha hb
    have hz1_0 : w.heap.size < w1.heap.size := by have := hk1.size; (try simp at this); omega
    have hn1_0 : ¬ w.heap.size = w1.heap.size := by omega
    have hm1_0 : ¬ w1.heap.size = w.heap.size := by omega
    have hf1_0_0 : w1.cell? ⟨w.heap.size, 0, none⟩ = some (.int .u64 A) := by first | (rw [ha]; with_reducible assumption) | (simp (maxDischargeDepth := 7) [go_sem, ha]; done) | (rw [ha]; assumption) | (simp (maxDischargeDepth := 7) [go_sem, ha, *]; done)
    have hf1_0_1 : w1.cell? ⟨w.heap.size, 1, none⟩ = some (.int .u64 a) := by first | (rw [ha]; with_reducible assumption) | (simp (maxDischargeDepth := 7) [go_sem, ha]; done) | (rw [ha]; assumption) | (simp (maxDischargeDepth := 7) [go_sem, ha, *]; done)
    try have hg1_0 : ∀ o, w1.frozen? ⟨w.heap.size, o, none⟩ = false := by intro o; first | (simp (maxDischargeDepth := 7) [go_sem, hb]; done) | (rw [hb]; simp (maxDischargeDepth := 7) [go_sem, *]; done)
    clear ha hb
    refine kuse (b := w.heap.size + 1) hk1 (by first | (simp; done) | (simp; omega) | omega) ?_
    intro ha hb
    have hz1_1 : w.heap.size + 1 < w1.heap.size := by have := hk1.size; (try simp at this); omega
    have hn1_1 : ¬ w.heap.size + 1 = w1.heap.size := by omega
    have hm1_1 : ¬ w1.heap.size = w.heap.size + 1 := by omega
    have hf1_1_0 : w1.cell? ⟨w.heap.size + 1, 0, none⟩ = some (.int .i64 0) := by first | (rw [ha]; with_reducible assumption) | (simp (maxDischargeDepth := 7) [go_sem, ha]; done) | (rw [ha]; assumption) | (simp (maxDischargeDepth := 7) [go_sem, ha, *]; done)
    have hf1_1_1 : w1.cell? ⟨w.heap.size + 1, 1, none⟩ = some (.int .u64 0) := by first | (rw [ha]; with_reducible assumption) | (simp (maxDischargeDepth := 7) [go_sem, ha]; done) | (rw [ha]; assumption) | (simp (maxDischargeDepth := 7) [go_sem, ha, *]; done)
    try have hg1_1 : ∀ o, w1.frozen? ⟨w.heap.size + 1, o, none⟩ = false := by intro o; first | (simp (maxDischargeDepth := 7) [go_sem, hb]; done) | (rw [hb]; simp (maxDischargeDepth := 7) [go_sem, *]; done)
    clear ha hb
    refine kuse (b := w.heap.size + 2) hk1 (by first | (simp; done) | (simp; omega) | omega) ?_
    intro ha hb
    have hz1_2 : w.heap.size + 2 < w1.heap.size := by have := hk1.size; (try simp at this); omega
    have hn1_2 : ¬ w.heap.size + 2 = w1.heap.size := by omega
    have hm1_2 : ¬ w1.heap.size = w.heap.size + 2 := by omega
    have hf1_2_0 : w1.cell? ⟨w.heap.size + 2, 0, none⟩ = some (.int .u64 9223372036854775808) := by first | (rw [ha]; with_reducible assumption) | (simp (maxDischargeDepth := 7) [go_sem, ha]; done) | (rw [ha]; assumption) | (simp (maxDischargeDepth := 7) [go_sem, ha, *]; done)
    have hf1_2_1 : w1.cell? ⟨w.heap.size + 2, 1, none⟩ = some (.int .u64 0) := by first | (rw [ha]; with_reducible assumption) | (simp (maxDischargeDepth := 7) [go_sem, ha]; done) | (rw [ha]; assumption) | (simp (maxDischargeDepth := 7) [go_sem, ha, *]; done)
    try have hg1_2 : ∀ o, w1.frozen? ⟨w.heap.size + 2, o, none⟩ = false := by intro o; first | (simp (maxDischargeDepth := 7) [go_sem, hb]; done) | (rw [hb]; simp (maxDischargeDepth := 7) [go_sem, *]; done)
    clear ha hb
    go_wp2_with fail
    all_goals exact bodyPost_ret (v := .tuple #[.agg #[.int .i64 0, .int .u64 0], .bool false]) (by first | (simp [results, Try.results87, go_sem]; done) | (simp (maxDischargeDepth := 7) [results, Try.results87, go_sem, *]; done)) rfl ⟨rfl, (by repeat (first | with_reducible exact Kept.refl _ | with_reducible assumption | with_reducible refine Kept.setCell ?_ (by first | (simp; done) | (simp; omega) | omega) _ | with_reducible refine Kept.alloc ?_ _ | with_reducible refine Kept.drewN ?_ _ | with_reducible refine Kept.drew ?_ | with_reducible refine Kept.trans ?_ (by with_reducible assumption) | with_reducible refine Kept.dr ?_ (by with_reducible assumption)))⟩
  by_cases c2 : m = 170141183460469231731687303715884105728
  · have e3 := wfit_yes (u := sgd true m) (by unfold sgd; rw [if_pos rfl]; omega) (by unfold sgd; rw [if_pos rfl]; omega)
    rw [e3.2, e3.1]
    clear e3
    have v1 : wh (sgd true m) = -9223372036854775808 := by unfold sgd wh; rw [if_pos rfl]; omega
    have v2 : wl (sgd true m) = 0 := by unfold sgd wl; rw [if_pos rfl]; omega
    have x1 : wh m = 9223372036854775808 := by unfold wh; omega
    have x2 : wl m = 0 := by unfold wl; omega
    have HL := Lib.hid (L1 (by omega))
    have E := Lib.hid (And.intro v1 v2)
    rw [x1, x2] at HL
    rw [x1, x2]
    clear L1 L2 v1 v2 x1 x2 A0 A1 a0 a1 em
    have MZ := minus_c 0 0 9223372036854775808 0 m (by omega) (by omega) (by omega) (by omega) (by omega) (by omega) (by omega) (by omega) (by omega)
    have y1 : wh m = 9223372036854775808 := by unfold wh; omega
    have y2 : wl m = 0 := by unfold wl; omega
    rw [y1, y2] at MZ
    have HM := Lib.hid MZ
    clear MZ y1 y2 m0 m1 c c2
    go_enter Try.func87, Try.ntmps87
    go_wp2_with fail
    with_reducible refine (HL.out _).mono ?_
    rintro e w1 ⟨rfl, hk1⟩
    refine kuse (b := w.heap.size) hk1 (by first | (simp; done) | (simp; omega) | omega) ?_
    intro ha hb
    have hz1_0 : w.heap.size < w1.heap.size := by have := hk1.size; (try simp at this); omega
    have hn1_0 : ¬ w.heap.size = w1.heap.size := by omega
    have hm1_0 : ¬ w1.heap.size = w.heap.size := by omega
    have hf1_0_0 : w1.cell? ⟨w.heap.size, 0, none⟩ = some (.int .u64 9223372036854775808) := by first | (rw [ha]; with_reducible assumption) | (simp (maxDischargeDepth := 7) [go_sem, ha]; done) | (rw [ha]; assumption) | (simp (maxDischargeDepth := 7) [go_sem, ha, *]; done)
    have hf1_0_1 : w1.cell? ⟨w.heap.size, 1, none⟩ = some (.int .u64 0) := by first | (rw [ha]; with_reducible assumption) | (simp (maxDischargeDepth := 7) [go_sem, ha]; done) | (rw [ha]; assumption) | (simp (maxDischargeDepth := 7) [go_sem, ha, *]; done)
    try have hg1_0 : ∀ o, w1.frozen? ⟨w.heap.size, o, none⟩ = false := by intro o; first | (simp (maxDischargeDepth := 7) [go_sem, hb]; done) | (rw [hb]; simp (maxDischargeDepth := 7) [go_sem, *]; done)
    clear ha hb
    refine kuse (b := w.heap.size + 1) hk1 (by first | (simp; done) | (simp; omega) | omega) ?_
    intro ha hb
    have hz1_1 : w.heap.size + 1 < w1.heap.size := by have := hk1.size; (try simp at this); omega
    have hn1_1 : ¬ w.heap.size + 1 = w1.heap.size := by omega
    have hm1_1 : ¬ w1.heap.size = w.heap.size + 1 := by omega
    have hf1_1_0 : w1.cell? ⟨w.heap.size + 1, 0, none⟩ = some (.int .i64 0) := by first | (rw [ha]; with_reducible assumption) | (simp (maxDischargeDepth := 7) [go_sem, ha]; done) | (rw [ha]; assumption) | (simp (maxDischargeDepth := 7) [go_sem, ha, *]; done)
    have hf1_1_1 : w1.cell? ⟨w.heap.size + 1, 1, none⟩ = some (.int .u64 0) := by first | (rw [ha]; with_reducible assumption) | (simp (maxDischargeDepth := 7) [go_sem, ha]; done) | (rw [ha]; assumption) | (simp (maxDischargeDepth := 7) [go_sem, ha, *]; done)
    try have hg1_1 : ∀ o, w1.frozen? ⟨w.heap.size + 1, o, none⟩ = false := by intro o; first | (simp (maxDischargeDepth := 7) [go_sem, hb]; done) | (rw [hb]; simp (maxDischargeDepth := 7) [go_sem, *]; done)
    clear ha hb
    refine kuse (b := w.heap.size + 2) hk1 (by first | (simp; done) | (simp; omega) | omega) ?_
    intro ha hb
    have hz1_2 : w.heap.size + 2 < w1.heap.size := by have := hk1.size; (try simp at this); omega
    have hn1_2 : ¬ w.heap.size + 2 = w1.heap.size := by omega
    have hm1_2 : ¬ w1.heap.size = w.heap.size + 2 := by omega
    have hf1_2_0 : w1.cell? ⟨w.heap.size + 2, 0, none⟩ = some (.int .u64 9223372036854775808) := by first | (rw [ha]; with_reducible assumption) | (simp (maxDischargeDepth := 7) [go_sem, ha]; done) | (rw [ha]; assumption) | (simp (maxDischargeDepth := 7) [go_sem, ha, *]; done)
    have hf1_2_1 : w1.cell? ⟨w.heap.size + 2, 1, none⟩ = some (.int .u64 0) := by first | (rw [ha]; with_reducible assumption) | (simp (maxDischargeDepth := 7) [go_sem, ha]; done) | (rw [ha]; assumption) | (simp (maxDischargeDepth := 7) [go_sem, ha, *]; done)
    try have hg1_2 : ∀ o, w1.frozen? ⟨w.heap.size + 2, o, none⟩ = false := by intro o; first | (simp (maxDischargeDepth := 7) [go_sem, hb]; done) | (rw [hb]; simp (maxDischargeDepth := 7) [go_sem, *]; done)
    clear ha hb
    go_wp2_with fail
    with_reducible refine (HM.out _).mono ?_
    rintro e w2 ⟨rfl, hk2⟩
    refine kuse (b := w.heap.size) hk2 (by first | (simp; done) | (simp; omega) | omega) ?_
    intro ha hb
    have hz2_0 : w.heap.size < w2.heap.size := by have := hk2.size; (try simp at this); omega
    have hn2_0 : ¬ w.heap.size = w2.heap.size := by omega
    have hm2_0 : ¬ w2.heap.size = w.heap.size := by omega
    have hf2_0_0 : w2.cell? ⟨w.heap.size, 0, none⟩ = some (.int .u64 9223372036854775808) := by first | (rw [ha]; with_reducible assumption) | (simp (maxDischargeDepth := 7) [go_sem, ha]; done) | (rw [ha]; assumption) | (simp (maxDischargeDepth := 7) [go_sem, ha, *]; done)
    have hf2_0_1 : w2.cell? ⟨w.heap.size, 1, none⟩ = some (.int .u64 0) := by first | (rw [ha]; with_reducible assumption) | (simp (maxDischargeDepth := 7) [go_sem, ha]; done) | (rw [ha]; assumption) | (simp (maxDischargeDepth := 7) [go_sem, ha, *]; done)
    try have hg2_0 : ∀ o, w2.frozen? ⟨w.heap.size, o, none⟩ = false := by intro o; first | (simp (maxDischargeDepth := 7) [go_sem, hb]; done) | (rw [hb]; simp (maxDischargeDepth := 7) [go_sem, *]; done)
    clear ha hb
    refine kuse (b := w.heap.size + 1) hk2 (by first | (simp; done) | (simp; omega) | omega) ?_
    intro ha hb
    have hz2_1 : w.heap.size + 1 < w2.heap.size := by have := hk2.size; (try simp at this); omega
    have hn2_1 : ¬ w.heap.size + 1 = w2.heap.size := by omega
    have hm2_1 : ¬ w2.heap.size = w.heap.size + 1 := by omega
    have hf2_1_0 : w2.cell? ⟨w.heap.size + 1, 0, none⟩ = some (.int .i64 0) := by first | (rw [ha]; with_reducible assumption) | (simp (maxDischargeDepth := 7) [go_sem, ha]; done) | (rw [ha]; assumption) | (simp (maxDischargeDepth := 7) [go_sem, ha, *]; done)
    have hf2_1_1 : w2.cell? ⟨w.heap.size + 1, 1, none⟩ = some (.int .u64 0) := by first | (rw [ha]; with_reducible assumption) | (simp (maxDischargeDepth := 7) [go_sem, ha]; done) | (rw [ha]; assumption) | (simp (maxDischargeDepth := 7) [go_sem, ha, *]; done)
    try have hg2_1 : ∀ o, w2.frozen? ⟨w.heap.size + 1, o, none⟩ = false := by intro o; first | (simp (maxDischargeDepth := 7) [go_sem, hb]; done) | (rw [hb]; simp (maxDischargeDepth := 7) [go_sem, *]; done)
    clear ha hb
    refine kuse (b := w.heap.size + 2) hk2 (by first | (simp; done) | (simp; omega) | omega) ?_
    intro ha hb
    have hz2_2 : w.heap.size + 2 < w2.heap.size := by have := hk2.size; (try simp at this); omega
    have hn2_2 : ¬ w.heap.size + 2 = w2.heap.size := by omega
    have hm2_2 : ¬ w2.heap.size = w.heap.size + 2 := by omega
    have hf2_2_0 : w2.cell? ⟨w.heap.size + 2, 0, none⟩ = some (.int .u64 9223372036854775808) := by first | (rw [ha]; with_reducible assumption) | (simp (maxDischargeDepth := 7) [go_sem, ha]; done) | (rw [ha]; assumption) | (simp (maxDischargeDepth := 7) [go_sem, ha, *]; done)
    have hf2_2_1 : w2.cell? ⟨w.heap.size + 2, 1, none⟩ = some (.int .u64 0) := by first | (rw [ha]; with_reducible assumption) | (simp (maxDischargeDepth := 7) [go_sem, ha]; done) | (rw [ha]; assumption) | (simp (maxDischargeDepth := 7) [go_sem, ha, *]; done)
    try have hg2_2 : ∀ o, w2.frozen? ⟨w.heap.size + 2, o, none⟩ = false := by intro o; first | (simp (maxDischargeDepth := 7) [go_sem, hb]; done) | (rw [hb]; simp (maxDischargeDepth := 7) [go_sem, *]; done)
    clear ha hb
    try clear hf1_0_0
    try clear hf1_0_1
    try clear hf1_1_0
    try clear hf1_1_1
    try clear hf1_2_0
    try clear hf1_2_1
    try clear hg1_0
    try clear hg1_1
    try clear hg1_2
    try clear hz1_1
    try clear hz1_2
    go_wp2_with fail
    have z1 : wrap64 9223372036854775808 = -9223372036854775808 := by unfold wrap64; omega
    first | (exact bodyPost_ret (v := .tuple #[.agg #[.int .i64 (-9223372036854775808), .int .u64 0], .bool true]) (by first | (simp [results, Try.results87, go_sem]; done) | (simp (maxDischargeDepth := 7) [results, Try.results87, go_sem, *]; done)) rfl ⟨agg2e ⟨E.out.1.symm, E.out.2.symm⟩ rfl, (by repeat (first | with_reducible exact Kept.refl _ | with_reducible assumption | with_reducible refine Kept.setCell ?_ (by first | (simp; done) | (simp; omega) | omega) _ | with_reducible refine Kept.alloc ?_ _ | with_reducible refine Kept.drewN ?_ _ | with_reducible refine Kept.drew ?_ | with_reducible refine Kept.trans ?_ (by with_reducible assumption) | with_reducible refine Kept.dr ?_ (by with_reducible assumption)))⟩)
  · have e3 := wfit_yes (u := sgd true m) (by unfold sgd; rw [if_pos rfl]; omega) (by unfold sgd; rw [if_pos rfl]; omega)
    rw [e3.2, e3.1]
    clear e3
    have ne : (wh m == 9223372036854775808) = false := by
      rw [beq_eq_false_iff_ne]
      unfold wh
      omega
    have HL := Lib.hid (L1 (by omega))
    clear L1 L2
    obtain ⟨r, hr⟩ : ∃ r, (0 * 18446744073709551616 + 0 - (wh m * 18446744073709551616 + wl m)) % 340282366920938463463374607431768211456 = r := ⟨_, rfl⟩
    have v1 : wrap64 (wh r) = wh (sgd true m) := by unfold sgd wh wrap64; rw [if_pos rfl]; omega
    have v2 : wl r = wl (sgd true m) := by unfold sgd wl; rw [if_pos rfl]; omega
    have E := Lib.hid (And.intro v1 v2)
    have HM := Lib.hid (minus_c 0 0 (wh m) (wl m) r (by omega) (by omega) (by omega) (by omega) A0 A1 a0 a1 hr)
    clear hr v1 v2 em
    generalize hA : wh m = A at *; generalize ha : wl m = a at *
    clear m0 m1 c c2 hA ha
    go_enter Try.func87, Try.ntmps87
    go_wp2_with fail
    with_reducible refine (HL.out _).mono ?_
    rintro e w1 ⟨rfl, hk1⟩
    refine kuse (b := w.heap.size) hk1 (by first | (simp; done) | (simp; omega) | omega) ?_
    intro ha hb
    have hz1_0 : w.heap.size < w1.heap.size := by have := hk1.size; (try simp at this); omega
    have hn1_0 : ¬ w.heap.size = w1.heap.size := by omega
    have hm1_0 : ¬ w1.heap.size = w.heap.size := by omega
    have hf1_0_0 : w1.cell? ⟨w.heap.size, 0, none⟩ = some (.int .u64 A) := by first | (rw [ha]; with_reducible assumption) | (simp (maxDischargeDepth := 7) [go_sem, ha]; done) | (rw [ha]; assumption) | (simp (maxDischargeDepth := 7) [go_sem, ha, *]; done)
    have hf1_0_1 : w1.cell? ⟨w.heap.size, 1, none⟩ = some (.int .u64 a) := by first | (rw [ha]; with_reducible assumption) | (simp (maxDischargeDepth := 7) [go_sem, ha]; done) | (rw [ha]; assumption) | (simp (maxDischargeDepth := 7) [go_sem, ha, *]; done)
    try have hg1_0 : ∀ o, w1.frozen? ⟨w.heap.size, o, none⟩ = false := by intro o; first | (simp (maxDischargeDepth := 7) [go_sem, hb]; done) | (rw [hb]; simp (maxDischargeDepth := 7) [go_sem, *]; done)
    clear ha hb
    refine kuse (b := w.heap.size + 1) hk1 (by first | (simp; done) | (simp; omega) | omega) ?_
    intro ha hb
    have hz1_1 : w.heap.size + 1 < w1.heap.size := by have := hk1.size; (try simp at this); omega
    have hn1_1 : ¬ w.heap.size + 1 = w1.heap.size := by omega
    have hm1_1 : ¬ w1.heap.size = w.heap.size + 1 := by omega
    have hf1_1_0 : w1.cell? ⟨w.heap.size + 1, 0, none⟩ = some (.int .i64 0) := by first | (rw [ha]; with_reducible assumption) | (simp (maxDischargeDepth := 7) [go_sem, ha]; done) | (rw [ha]; assumption) | (simp (maxDischargeDepth := 7) [go_sem, ha, *]; done)
    have hf1_1_1 : w1.cell? ⟨w.heap.size + 1, 1, none⟩ = some (.int .u64 0) := by first | (rw [ha]; with_reducible assumption) | (simp (maxDischargeDepth := 7) [go_sem, ha]; done) | (rw [ha]; assumption) | (simp (maxDischargeDepth := 7) [go_sem, ha, *]; done)
    try have hg1_1 : ∀ o, w1.frozen? ⟨w.heap.size + 1, o, none⟩ = false := by intro o; first | (simp (maxDischargeDepth := 7) [go_sem, hb]; done) | (rw [hb]; simp (maxDischargeDepth := 7) [go_sem, *]; done)
    clear ha hb
    refine kuse (b := w.heap.size + 2) hk1 (by first | (simp; done) | (simp; omega) | omega) ?_
    intro ha hb
    have hz1_2 : w.heap.size + 2 < w1.heap.size := by have := hk1.size; (try simp at this); omega
    have hn1_2 : ¬ w.heap.size + 2 = w1.heap.size := by omega
    have hm1_2 : ¬ w1.heap.size = w.heap.size + 2 := by omega
    have hf1_2_0 : w1.cell? ⟨w.heap.size + 2, 0, none⟩ = some (.int .u64 9223372036854775808) := by first | (rw [ha]; with_reducible assumption) | (simp (maxDischargeDepth := 7) [go_sem, ha]; done) | (rw [ha]; assumption) | (simp (maxDischargeDepth := 7) [go_sem, ha, *]; done)
    have hf1_2_1 : w1.cell? ⟨w.heap.size + 2, 1, none⟩ = some (.int .u64 0) := by first | (rw [ha]; with_reducible assumption) | (simp (maxDischargeDepth := 7) [go_sem, ha]; done) | (rw [ha]; assumption) | (simp (maxDischargeDepth := 7) [go_sem, ha, *]; done)
    try have hg1_2 : ∀ o, w1.frozen? ⟨w.heap.size + 2, o, none⟩ = false := by intro o; first | (simp (maxDischargeDepth := 7) [go_sem, hb]; done) | (rw [hb]; simp (maxDischargeDepth := 7) [go_sem, *]; done)
    clear ha hb
    go_wp2_with fail
    with_reducible refine (HM.out _).mono ?_
    rintro e w2 ⟨rfl, hk2⟩
    refine kuse (b := w.heap.size) hk2 (by first | (simp; done) | (simp; omega) | omega) ?_
    intro ha hb
    have hz2_0 : w.heap.size < w2.heap.size := by have := hk2.size; (try simp at this); omega
    have hn2_0 : ¬ w.heap.size = w2.heap.size := by omega
    have hm2_0 : ¬ w2.heap.size = w.heap.size := by omega
    have hf2_0_0 : w2.cell? ⟨w.heap.size, 0, none⟩ = some (.int .u64 A) := by first | (rw [ha]; with_reducible assumption) | (simp (maxDischargeDepth := 7) [go_sem, ha]; done) | (rw [ha]; assumption) | (simp (maxDischargeDepth := 7) [go_sem, ha, *]; done)
    have hf2_0_1 : w2.cell? ⟨w.heap.size, 1, none⟩ = some (.int .u64 a) := by first | (rw [ha]; with_reducible assumption) | (simp (maxDischargeDepth := 7) [go_sem, ha]; done) | (rw [ha]; assumption) | (simp (maxDischargeDepth := 7) [go_sem, ha, *]; done)
    try have hg2_0 : ∀ o, w2.frozen? ⟨w.heap.size, o, none⟩ = false := by intro o; first | (simp (maxDischargeDepth := 7) [go_sem, hb]; done) | (rw [hb]; simp (maxDischargeDepth := 7) [go_sem, *]; done)
    clear ha hb
    refine kuse (b := w.heap.size + 1) hk2 (by first | (simp; done) | (simp; omega) | omega) ?_
    intro ha hb
    have hz2_1 : w.heap.size + 1 < w2.heap.size := by have := hk2.size; (try simp at this); omega
    have hn2_1 : ¬ w.heap.size + 1 = w2.heap.size := by omega
    have hm2_1 : ¬ w2.heap.size = w.heap.size + 1 := by omega
    have hf2_1_0 : w2.cell? ⟨w.heap.size + 1, 0, none⟩ = some (.int .i64 0) := by first | (rw [ha]; with_reducible assumption) | (simp (maxDischargeDepth := 7) [go_sem, ha]; done) | (rw [ha]; assumption) | (simp (maxDischargeDepth := 7) [go_sem, ha, *]; done)
    have hf2_1_1 : w2.cell? ⟨w.heap.size + 1, 1, none⟩ = some (.int .u64 0) := by first | (rw [ha]; with_reducible assumption) | (simp (maxDischargeDepth := 7) [go_sem, ha]; done) | (rw [ha]; assumption) | (simp (maxDischargeDepth := 7) [go_sem, ha, *]; done)
    try have hg2_1 : ∀ o, w2.frozen? ⟨w.heap.size + 1, o, none⟩ = false := by intro o; first | (simp (maxDischargeDepth := 7) [go_sem, hb]; done) | (rw [hb]; simp (maxDischargeDepth := 7) [go_sem, *]; done)
    clear ha hb
    refine kuse (b := w.heap.size + 2) hk2 (by first | (simp; done) | (simp; omega) | omega) ?_
    intro ha hb
    have hz2_2 : w.heap.size + 2 < w2.heap.size := by have := hk2.size; (try simp at this); omega
    have hn2_2 : ¬ w.heap.size + 2 = w2.heap.size := by omega
    have hm2_2 : ¬ w2.heap.size = w.heap.size + 2 := by omega
    have hf2_2_0 : w2.cell? ⟨w.heap.size + 2, 0, none⟩ = some (.int .u64 9223372036854775808) := by first | (rw [ha]; with_reducible assumption) | (simp (maxDischargeDepth := 7) [go_sem, ha]; done) | (rw [ha]; assumption) | (simp (maxDischargeDepth := 7) [go_sem, ha, *]; done)
    have hf2_2_1 : w2.cell? ⟨w.heap.size + 2, 1, none⟩ = some (.int .u64 0) := by first | (rw [ha]; with_reducible assumption) | (simp (maxDischargeDepth := 7) [go_sem, ha]; done) | (rw [ha]; assumption) | (simp (maxDischargeDepth := 7) [go_sem, ha, *]; done)
    try have hg2_2 : ∀ o, w2.frozen? ⟨w.heap.size + 2, o, none⟩ = false := by intro o; first | (simp (maxDischargeDepth := 7) [go_sem, hb]; done) | (rw [hb]; simp (maxDischargeDepth := 7) [go_sem, *]; done)
    clear ha hb
    try clear hf1_0_0
    try clear hf1_0_1
    try clear hf1_1_0
    try clear hf1_1_1
    try clear hf1_2_0
    try clear hf1_2_1
    try clear hg1_0
    try clear hg1_1
    try clear hg1_2
    try clear hz1_1
    try clear hz1_2
    go_wp2_with fail
    exact bodyPost_ret (v := .tuple #[.agg #[.int .i64 (wrap64 (wh r)), .int .u64 (wl r)], .bool true]) (by first | (simp [results, Try.results87, go_sem]; done) | (simp (maxDischargeDepth := 7) [results, Try.results87, go_sem, *]; done)) rfl ⟨agg2e E.out rfl, (by repeat (first | with_reducible exact Kept.refl _ | with_reducible assumption | with_reducible refine Kept.setCell ?_ (by first | (simp; done) | (simp; omega) | omega) _ | with_reducible refine Kept.alloc ?_ _ | with_reducible refine Kept.drewN ?_ _ | with_reducible refine Kept.drew ?_ | with_reducible refine Kept.trans ?_ (by with_reducible assumption) | with_reducible refine Kept.dr ?_ (by with_reducible assumption)))⟩
def wcm (u v : Int) : Int := if u < v then -1 else if u = v then 0 else 1
theorem cmp_w (u v : Int) (w : World) : Calls Try.prog 52 #[.agg #[.int .i64 (wh u), .int .u64 (wl u)], .agg #[.int .i64 (wh v), .int .u64 (wl v)]] w fun e w' => e = .returned (.int .i64 (wcm u v)) ∧ Kept w w' := by
  unfold wcm
  by_cases h : u < v
  · rw [if_pos h]; exact cmp_lt u v h w
  · by_cases h2 : u = v
    · subst h2; rw [if_neg h, if_pos rfl]; exact cmp_eq u w
    · rw [if_neg h, if_neg h2]; exact cmp_gt u v (by omega) w
end Go.Proofs.Ytinpmooihjdbgaa
