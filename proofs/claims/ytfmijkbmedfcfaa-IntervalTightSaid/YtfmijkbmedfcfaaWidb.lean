/-
  Own contracts: package wide: magnitudes, comparisons, products.
-/
import Derived.Test.YtfmijkbmedfcfaaWida
import Derived.WalkKit
import Derived.ProofKit
import Derived.OpenShut
import Derived.WalkLawsBesides
import Derived.WalkSpells
import Derived.Lib.Hide
import Derived.Deep.DeepCutAuto
import Derived.Deep.CutBlock
import Derived.Deep.QuietTactic
import Derived.BigQuiet
import Derived.Handy
import Derived.StillTailTactics
import Derived.IntWalk
import Derived.LoopN
import Derived.Deep.RegionHeld3
namespace Go.Proofs.Ytfmijkbmedfcfaa
open Go.ChangeShapes Go.WideShapes Go.ChangeAt Go.RowKit
set_option linter.unusedVariables false
set_option linter.unusedSimpArgs false

theorem sgn_bd (a b : Int) (a0 : -9223372036854775808 ≤ a) (a1 : a ≤ 9223372036854775807) (b0 : -9223372036854775808 ≤ b) (b1 : b ≤ 9223372036854775807) :
    -85070591730234615865843651857942052864 ≤ a * b ∧ a * b ≤ 85070591730234615865843651857942052864 := by
  have h : ∀ x y : Int, 0 ≤ x → x ≤ 9223372036854775808 → 0 ≤ y → y ≤ 9223372036854775808 → 0 ≤ x * y ∧ x * y ≤ 85070591730234615865843651857942052864 :=
    fun x y h0 h1 h2 h3 => le_mul x y 9223372036854775808 9223372036854775808 h0 h1 h2 h3
  by_cases ha : 0 ≤ a <;> by_cases hb : 0 ≤ b
  · have := h a b ha (by omega) hb (by omega); omega
  · have := h a (-b) ha (by omega) (by omega) (by omega); rw [Int.mul_neg] at this; omega
  · have := h (-a) b (by omega) (by omega) hb (by omega); rw [Int.neg_mul] at this; omega
  · have := h (-a) (-b) (by omega) (by omega) (by omega) (by omega); rw [Int.neg_mul_neg] at this; omega
theorem wm00 (a b A B : Int) (a_0 : -9223372036854775808 ≤ a) (a_1 : a ≤ 9223372036854775807) (b_0 : -9223372036854775808 ≤ b) (b_1 : b ≤ 9223372036854775807) (hA : A = a) (hB : B = b) : wrap64 (A * B / 18446744073709551616) = wh (a * b) ∧ A * B % 18446744073709551616 = wl (a * b) := by
  obtain ⟨p0, p1⟩ := sgn_bd a b a_0 a_1 b_0 b_1
  have h : A * B = a * b := by subst hA hB; (try simp only [Int.add_mul, Int.mul_add]); (try omega)
  unfold wh wl wrap64
  (try simp only [IntKind.wrap_u64])
  rw [h]
  generalize a * b = p at *
  clear h
  constructor <;> omega
set_option maxHeartbeats 1000000 in
theorem wmul_00 (a b : Int) (a_0 : -9223372036854775808 ≤ a) (a_1 : a ≤ 9223372036854775807) (b_0 : -9223372036854775808 ≤ b) (b_1 : b ≤ 9223372036854775807) (ha : 0 ≤ a) (hb : 0 ≤ b) (w : World) : Calls Try.prog 8 #[.int .i64 a, .int .i64 b] w fun en w' => en = .returned (.agg #[.int .i64 (wh (a * b)), .int .u64 (wl (a * b))]) ∧ Kept w w' := by
  obtain ⟨A, hA⟩ : ∃ A, IntKind.u64.wrap a = A := ⟨_, rfl⟩
  obtain ⟨B, hB⟩ : ∃ B, IntKind.u64.wrap b = B := ⟨_, rfl⟩
  have A0 : 0 ≤ A := by rw [← hA, IntKind.wrap_u64]; omega
  have A1 : A ≤ 18446744073709551615 := by rw [← hA, IntKind.wrap_u64]; omega
  have B0 : 0 ≤ B := by rw [← hB, IntKind.wrap_u64]; omega
  have B1 : B ≤ 18446744073709551615 := by rw [← hB, IntKind.wrap_u64]; omega
  have E := Lib.hid (wm00 a b A B a_0 a_1 b_0 b_1 (by rw [← hA, IntKind.wrap_u64]; omega) (by rw [← hB, IntKind.wrap_u64]; omega))
  go_enter Try.func8, Try.ntmps8
  go_wp2_with (first | (go_at_call 19; refine (mul64_w A B (by omega) (by omega) (by omega) (by omega) _).mono ?_; rintro e w' ⟨rfl, rfl⟩))
  exact bodyPost_ret (v := .agg #[.int .i64 (wrap64 (A * B / 18446744073709551616)), .int .u64 (A * B % 18446744073709551616)]) (by first | (simp [results, Try.results8, go_sem]; done) | (simp (maxDischargeDepth := 7) [results, Try.results8, go_sem, *]; done)) rfl ⟨agg2 E.out.1 E.out.2, (by repeat (first | with_reducible exact Kept.refl _ | with_reducible assumption | with_reducible refine Kept.setCell ?_ (by first | (simp; done) | (simp; omega) | omega) _ | with_reducible refine Kept.alloc ?_ _ | with_reducible refine Kept.drewN ?_ _ | with_reducible refine Kept.drew ?_ | with_reducible refine Kept.trans ?_ (by with_reducible assumption) | with_reducible refine Kept.dr ?_ (by with_reducible assumption)))⟩
theorem wm01 (a b A B : Int) (a_0 : -9223372036854775808 ≤ a) (a_1 : a ≤ 9223372036854775807) (b_0 : -9223372036854775808 ≤ b) (b_1 : b ≤ 9223372036854775807) (hA : A = a) (hB : B = b + 18446744073709551616) : wrap64 (IntKind.u64.wrap (A * B / 18446744073709551616 - A)) = wh (a * b) ∧ A * B % 18446744073709551616 = wl (a * b) := by
  obtain ⟨p0, p1⟩ := sgn_bd a b a_0 a_1 b_0 b_1
  have h : A * B = a * b + 18446744073709551616 * a := by subst hA hB; (try simp only [Int.add_mul, Int.mul_add]); (try omega)
  unfold wh wl wrap64
  (try simp only [IntKind.wrap_u64])
  rw [h]
  generalize a * b = p at *
  clear h
  constructor <;> omega
set_option maxHeartbeats 1000000 in
theorem wmul_01 (a b : Int) (a_0 : -9223372036854775808 ≤ a) (a_1 : a ≤ 9223372036854775807) (b_0 : -9223372036854775808 ≤ b) (b_1 : b ≤ 9223372036854775807) (ha : 0 ≤ a) (hb : b < 0) (w : World) : Calls Try.prog 8 #[.int .i64 a, .int .i64 b] w fun en w' => en = .returned (.agg #[.int .i64 (wh (a * b)), .int .u64 (wl (a * b))]) ∧ Kept w w' := by
  obtain ⟨A, hA⟩ : ∃ A, IntKind.u64.wrap a = A := ⟨_, rfl⟩
  obtain ⟨B, hB⟩ : ∃ B, IntKind.u64.wrap b = B := ⟨_, rfl⟩
  have A0 : 0 ≤ A := by rw [← hA, IntKind.wrap_u64]; omega
  have A1 : A ≤ 18446744073709551615 := by rw [← hA, IntKind.wrap_u64]; omega
  have B0 : 0 ≤ B := by rw [← hB, IntKind.wrap_u64]; omega
  have B1 : B ≤ 18446744073709551615 := by rw [← hB, IntKind.wrap_u64]; omega
  have E := Lib.hid (wm01 a b A B a_0 a_1 b_0 b_1 (by rw [← hA, IntKind.wrap_u64]; omega) (by rw [← hB, IntKind.wrap_u64]; omega))
  go_enter Try.func8, Try.ntmps8
  go_wp2_with (first | (go_at_call 19; refine (mul64_w A B (by omega) (by omega) (by omega) (by omega) _).mono ?_; rintro e w' ⟨rfl, rfl⟩))
  exact bodyPost_ret (v := .agg #[.int .i64 (wrap64 (IntKind.u64.wrap (A * B / 18446744073709551616 - A))), .int .u64 (A * B % 18446744073709551616)]) (by first | (simp [results, Try.results8, go_sem]; done) | (simp (maxDischargeDepth := 7) [results, Try.results8, go_sem, *]; done)) rfl ⟨agg2 E.out.1 E.out.2, (by repeat (first | with_reducible exact Kept.refl _ | with_reducible assumption | with_reducible refine Kept.setCell ?_ (by first | (simp; done) | (simp; omega) | omega) _ | with_reducible refine Kept.alloc ?_ _ | with_reducible refine Kept.drewN ?_ _ | with_reducible refine Kept.drew ?_ | with_reducible refine Kept.trans ?_ (by with_reducible assumption) | with_reducible refine Kept.dr ?_ (by with_reducible assumption)))⟩
theorem wm10 (a b A B : Int) (a_0 : -9223372036854775808 ≤ a) (a_1 : a ≤ 9223372036854775807) (b_0 : -9223372036854775808 ≤ b) (b_1 : b ≤ 9223372036854775807) (hA : A = a + 18446744073709551616) (hB : B = b) : wrap64 (IntKind.u64.wrap (A * B / 18446744073709551616 - B)) = wh (a * b) ∧ A * B % 18446744073709551616 = wl (a * b) := by
  obtain ⟨p0, p1⟩ := sgn_bd a b a_0 a_1 b_0 b_1
  have h : A * B = a * b + 18446744073709551616 * b := by subst hA hB; (try simp only [Int.add_mul, Int.mul_add]); (try omega)
  unfold wh wl wrap64
  (try simp only [IntKind.wrap_u64])
  rw [h]
  generalize a * b = p at *
  clear h
  constructor <;> omega
set_option maxHeartbeats 1000000 in
theorem wmul_10 (a b : Int) (a_0 : -9223372036854775808 ≤ a) (a_1 : a ≤ 9223372036854775807) (b_0 : -9223372036854775808 ≤ b) (b_1 : b ≤ 9223372036854775807) (ha : a < 0) (hb : 0 ≤ b) (w : World) : Calls Try.prog 8 #[.int .i64 a, .int .i64 b] w fun en w' => en = .returned (.agg #[.int .i64 (wh (a * b)), .int .u64 (wl (a * b))]) ∧ Kept w w' := by
  obtain ⟨A, hA⟩ : ∃ A, IntKind.u64.wrap a = A := ⟨_, rfl⟩
  obtain ⟨B, hB⟩ : ∃ B, IntKind.u64.wrap b = B := ⟨_, rfl⟩
  have A0 : 0 ≤ A := by rw [← hA, IntKind.wrap_u64]; omega
  have A1 : A ≤ 18446744073709551615 := by rw [← hA, IntKind.wrap_u64]; omega
  have B0 : 0 ≤ B := by rw [← hB, IntKind.wrap_u64]; omega
  have B1 : B ≤ 18446744073709551615 := by rw [← hB, IntKind.wrap_u64]; omega
  have E := Lib.hid (wm10 a b A B a_0 a_1 b_0 b_1 (by rw [← hA, IntKind.wrap_u64]; omega) (by rw [← hB, IntKind.wrap_u64]; omega))
  go_enter Try.func8, Try.ntmps8
  go_wp2_with (first | (go_at_call 19; refine (mul64_w A B (by omega) (by omega) (by omega) (by omega) _).mono ?_; rintro e w' ⟨rfl, rfl⟩))
  exact bodyPost_ret (v := .agg #[.int .i64 (wrap64 (IntKind.u64.wrap (A * B / 18446744073709551616 - B))), .int .u64 (A * B % 18446744073709551616)]) (by first | (simp [results, Try.results8, go_sem]; done) | (simp (maxDischargeDepth := 7) [results, Try.results8, go_sem, *]; done)) rfl ⟨agg2 E.out.1 E.out.2, (by repeat (first | with_reducible exact Kept.refl _ | with_reducible assumption | with_reducible refine Kept.setCell ?_ (by first | (simp; done) | (simp; omega) | omega) _ | with_reducible refine Kept.alloc ?_ _ | with_reducible refine Kept.drewN ?_ _ | with_reducible refine Kept.drew ?_ | with_reducible refine Kept.trans ?_ (by with_reducible assumption) | with_reducible refine Kept.dr ?_ (by with_reducible assumption)))⟩
theorem wm11 (a b A B : Int) (a_0 : -9223372036854775808 ≤ a) (a_1 : a ≤ 9223372036854775807) (b_0 : -9223372036854775808 ≤ b) (b_1 : b ≤ 9223372036854775807) (hA : A = a + 18446744073709551616) (hB : B = b + 18446744073709551616) : wrap64 (IntKind.u64.wrap (IntKind.u64.wrap (A * B / 18446744073709551616 - B) - A)) = wh (a * b) ∧ A * B % 18446744073709551616 = wl (a * b) := by
  obtain ⟨p0, p1⟩ := sgn_bd a b a_0 a_1 b_0 b_1
  have h : A * B = a * b + 18446744073709551616 * b + 18446744073709551616 * a + 18446744073709551616 * 18446744073709551616 := by subst hA hB; (try simp only [Int.add_mul, Int.mul_add]); (try omega)
  unfold wh wl wrap64
  (try simp only [IntKind.wrap_u64])
  rw [h]
  generalize a * b = p at *
  clear h
  constructor <;> omega
set_option maxHeartbeats 1000000 in
theorem wmul_11 (a b : Int) (a_0 : -9223372036854775808 ≤ a) (a_1 : a ≤ 9223372036854775807) (b_0 : -9223372036854775808 ≤ b) (b_1 : b ≤ 9223372036854775807) (ha : a < 0) (hb : b < 0) (w : World) : Calls Try.prog 8 #[.int .i64 a, .int .i64 b] w fun en w' => en = .returned (.agg #[.int .i64 (wh (a * b)), .int .u64 (wl (a * b))]) ∧ Kept w w' := by
  obtain ⟨A, hA⟩ : ∃ A, IntKind.u64.wrap a = A := ⟨_, rfl⟩
  obtain ⟨B, hB⟩ : ∃ B, IntKind.u64.wrap b = B := ⟨_, rfl⟩
  have A0 : 0 ≤ A := by rw [← hA, IntKind.wrap_u64]; omega
  have A1 : A ≤ 18446744073709551615 := by rw [← hA, IntKind.wrap_u64]; omega
  have B0 : 0 ≤ B := by rw [← hB, IntKind.wrap_u64]; omega
  have B1 : B ≤ 18446744073709551615 := by rw [← hB, IntKind.wrap_u64]; omega
  have E := Lib.hid (wm11 a b A B a_0 a_1 b_0 b_1 (by rw [← hA, IntKind.wrap_u64]; omega) (by rw [← hB, IntKind.wrap_u64]; omega))
  go_enter Try.func8, Try.ntmps8
  go_wp2_with (first | (go_at_call 19; refine (mul64_w A B (by omega) (by omega) (by omega) (by omega) _).mono ?_; rintro e w' ⟨rfl, rfl⟩))
  exact bodyPost_ret (v := .agg #[.int .i64 (wrap64 (IntKind.u64.wrap (IntKind.u64.wrap (A * B / 18446744073709551616 - B) - A))), .int .u64 (A * B % 18446744073709551616)]) (by first | (simp [results, Try.results8, go_sem]; done) | (simp (maxDischargeDepth := 7) [results, Try.results8, go_sem, *]; done)) rfl ⟨agg2 E.out.1 E.out.2, (by repeat (first | with_reducible exact Kept.refl _ | with_reducible assumption | with_reducible refine Kept.setCell ?_ (by first | (simp; done) | (simp; omega) | omega) _ | with_reducible refine Kept.alloc ?_ _ | with_reducible refine Kept.drewN ?_ _ | with_reducible refine Kept.drew ?_ | with_reducible refine Kept.trans ?_ (by with_reducible assumption) | with_reducible refine Kept.dr ?_ (by with_reducible assumption)))⟩
theorem wmul_w (a b : Int) (a_0 : -9223372036854775808 ≤ a) (a_1 : a ≤ 9223372036854775807) (b_0 : -9223372036854775808 ≤ b) (b_1 : b ≤ 9223372036854775807) (w : World) : Calls Try.prog 8 #[.int .i64 a, .int .i64 b] w fun en w' => en = .returned (.agg #[.int .i64 (wh (a * b)), .int .u64 (wl (a * b))]) ∧ Kept w w' := by
  by_cases ha : a < 0 <;> by_cases hb : b < 0
  · exact wmul_11 a b a_0 a_1 b_0 b_1 ha hb w
  · exact wmul_10 a b a_0 a_1 b_0 b_1 ha (by omega) w
  · exact wmul_01 a b a_0 a_1 b_0 b_1 (by omega) hb w
  · exact wmul_00 a b a_0 a_1 b_0 b_1 (by omega) (by omega) w
theorem cmp_lt (u v : Int) (h : u < v) (w : World) : Calls Try.prog 17 #[.agg #[.int .i64 (wh u), .int .u64 (wl u)], .agg #[.int .i64 (wh v), .int .u64 (wl v)]] w fun en w' => en = .returned (.int .i64 (-1)) ∧ Kept w w' := by
  obtain ⟨eu, u0, u1⟩ := wv u
  obtain ⟨ev, v0, v1⟩ := wv v
  generalize wh u = A at *; generalize wl u = a at *; generalize wh v = B at *; generalize wl v = b at *
  by_cases c : A < B
  · have n1 : (A == B) = false := by simpa using (show ¬ A = B by omega)
    clear eu ev
    go_enter Try.func17, Try.ntmps17
    go_wp2_with fail
    go_ret
    exact ⟨rfl, (by repeat (first | with_reducible exact Kept.refl _ | with_reducible assumption | with_reducible refine Kept.setCell ?_ (by first | (simp; done) | (simp; omega) | omega) _ | with_reducible refine Kept.alloc ?_ _ | with_reducible refine Kept.drewN ?_ _ | with_reducible refine Kept.drew ?_ | with_reducible refine Kept.trans ?_ (by with_reducible assumption) | with_reducible refine Kept.dr ?_ (by with_reducible assumption)))⟩
  · have c1 : a < b := by omega
    have c2 : A = B := by omega
    subst c2
    have n1 : (a == b) = false := by simpa using (show ¬ a = b by omega)
    clear eu ev c
    go_enter Try.func17, Try.ntmps17
    go_wp2_with fail
    go_ret
    exact ⟨rfl, (by repeat (first | with_reducible exact Kept.refl _ | with_reducible assumption | with_reducible refine Kept.setCell ?_ (by first | (simp; done) | (simp; omega) | omega) _ | with_reducible refine Kept.alloc ?_ _ | with_reducible refine Kept.drewN ?_ _ | with_reducible refine Kept.drew ?_ | with_reducible refine Kept.trans ?_ (by with_reducible assumption) | with_reducible refine Kept.dr ?_ (by with_reducible assumption)))⟩
theorem cmp_gt (u v : Int) (h : v < u) (w : World) : Calls Try.prog 17 #[.agg #[.int .i64 (wh u), .int .u64 (wl u)], .agg #[.int .i64 (wh v), .int .u64 (wl v)]] w fun en w' => en = .returned (.int .i64 1) ∧ Kept w w' := by
  obtain ⟨eu, u0, u1⟩ := wv u
  obtain ⟨ev, v0, v1⟩ := wv v
  generalize wh u = A at *; generalize wl u = a at *; generalize wh v = B at *; generalize wl v = b at *
  by_cases c : B < A
  · have n1 : (A == B) = false := by simpa using (show ¬ A = B by omega)
    clear eu ev
    go_enter Try.func17, Try.ntmps17
    go_wp2_with fail
    go_ret
    exact ⟨rfl, (by repeat (first | with_reducible exact Kept.refl _ | with_reducible assumption | with_reducible refine Kept.setCell ?_ (by first | (simp; done) | (simp; omega) | omega) _ | with_reducible refine Kept.alloc ?_ _ | with_reducible refine Kept.drewN ?_ _ | with_reducible refine Kept.drew ?_ | with_reducible refine Kept.trans ?_ (by with_reducible assumption) | with_reducible refine Kept.dr ?_ (by with_reducible assumption)))⟩
  · have c1 : b < a := by omega
    have c2 : A = B := by omega
    subst c2
    have n1 : (a == b) = false := by simpa using (show ¬ a = b by omega)
    clear eu ev c
    go_enter Try.func17, Try.ntmps17
    go_wp2_with fail
    go_ret
    exact ⟨rfl, (by repeat (first | with_reducible exact Kept.refl _ | with_reducible assumption | with_reducible refine Kept.setCell ?_ (by first | (simp; done) | (simp; omega) | omega) _ | with_reducible refine Kept.alloc ?_ _ | with_reducible refine Kept.drewN ?_ _ | with_reducible refine Kept.drew ?_ | with_reducible refine Kept.trans ?_ (by with_reducible assumption) | with_reducible refine Kept.dr ?_ (by with_reducible assumption)))⟩
theorem cmp_eq (u : Int) (w : World) : Calls Try.prog 17 #[.agg #[.int .i64 (wh u), .int .u64 (wl u)], .agg #[.int .i64 (wh u), .int .u64 (wl u)]] w fun en w' => en = .returned (.int .i64 0) ∧ Kept w w' := by
  obtain ⟨eu, u0, u1⟩ := wv u
  generalize wh u = A at *; generalize wl u = a at *
  clear eu
  go_enter Try.func17, Try.ntmps17
  go_wp2_with fail
  go_ret
  exact ⟨rfl, (by repeat (first | with_reducible exact Kept.refl _ | with_reducible assumption | with_reducible refine Kept.setCell ?_ (by first | (simp; done) | (simp; omega) | omega) _ | with_reducible refine Kept.alloc ?_ _ | with_reducible refine Kept.drewN ?_ _ | with_reducible refine Kept.drew ?_ | with_reducible refine Kept.trans ?_ (by with_reducible assumption) | with_reducible refine Kept.dr ?_ (by with_reducible assumption)))⟩
theorem of_w (a : Int) (a_0 : -9223372036854775808 ≤ a) (a_1 : a ≤ 9223372036854775807) (w : World) : Calls Try.prog 7 #[.int .i64 a] w fun en w' => en = .returned (.agg #[.int .i64 (wh a), .int .u64 (wl a)]) ∧ Kept w w' := by
  go_enter Try.func7, Try.ntmps7
  go_wp2_with fail
  exact bodyPost_ret (v := .agg #[.int .i64 (a / 9223372036854775808), .int .u64 (IntKind.u64.wrap a)]) (by first | (simp [results, Try.results7, go_sem]; done) | (simp (maxDischargeDepth := 7) [results, Try.results7, go_sem, *]; done)) rfl ⟨agg2 (by unfold wh; omega) (by rw [IntKind.wrap_u64]; rfl), (by repeat (first | with_reducible exact Kept.refl _ | with_reducible assumption | with_reducible refine Kept.setCell ?_ (by first | (simp; done) | (simp; omega) | omega) _ | with_reducible refine Kept.alloc ?_ _ | with_reducible refine Kept.drewN ?_ _ | with_reducible refine Kept.drew ?_ | with_reducible refine Kept.trans ?_ (by with_reducible assumption) | with_reducible refine Kept.dr ?_ (by with_reducible assumption)))⟩
theorem wrap_wl (v : Int) (v_0 : -9223372036854775808 ≤ v) (v_1 : v ≤ 9223372036854775807) : wrap64 (wl v) = v := by unfold wrap64 wl; omega
theorem int_ok (v : Int) (v_0 : -9223372036854775808 ≤ v) (v_1 : v ≤ 9223372036854775807) (w : World) : Calls Try.prog 18 #[.agg #[.int .i64 (wh v), .int .u64 (wl v)]] w fun en w' => en = .returned (.tuple #[.int .i64 v, .bool true]) ∧ Kept w w' := by
  obtain ⟨_, u0, u1⟩ := wv v
  obtain ⟨c, hc⟩ : ∃ c, wrap64 (wl v) = c := ⟨_, rfl⟩
  have hv : c = v := by rw [← hc]; exact wrap_wl v v_0 v_1
  have c0 : -9223372036854775808 ≤ c := by omega
  have c1 : c ≤ 9223372036854775807 := by omega
  have e2 : wl c = wl v := by rw [hv]
  have e3 : wh c = wh v := by rw [hv]
  generalize wl v = L at *
  generalize wh v = H at *
  have HV := Lib.hid hv
  clear hv v_0 v_1
  go_enter Try.func18, Try.ntmps18
  go_wp2_with fail
  first | (go_region_held3 (fun W => W.cell? ⟨w.heap.size, 0, none⟩ = some (.int .i64 H) ∧ W.cell? ⟨w.heap.size, 1, none⟩ = some (.int .u64 L)) (go_keep) (first | (go_at_call 7; refine (of_w c (by omega) (by omega) _).mono ?_; rintro e w' ⟨rfl, hk⟩; refine kuse (b := w.heap.size) hk (by first | (simp; done) | (simp; omega) | omega) ?_; intro hq hg; have hy : w.heap.size < w'.heap.size := (by have := hk.size; (try simp at this); omega)))) | fail
  all_goals go_wp2_with fail
  all_goals go_ret2
  refine ⟨?_, (by repeat (first | with_reducible exact Kept.refl _ | with_reducible assumption | with_reducible refine Kept.setCell ?_ (by first | (simp; done) | (simp; omega) | omega) _ | with_reducible refine Kept.alloc ?_ _ | with_reducible refine Kept.drewN ?_ _ | with_reducible refine Kept.drew ?_ | with_reducible refine Kept.trans ?_ (by with_reducible assumption) | with_reducible refine Kept.dr ?_ (by with_reducible assumption)))⟩
  show Ending.returned (.tuple #[.int .i64 c, .bool true]) = _
  rw [HV.out]
theorem int_no (v : Int) (h : v < -9223372036854775808 ∨ 9223372036854775807 < v) (w : World) : Calls Try.prog 18 #[.agg #[.int .i64 (wh v), .int .u64 (wl v)]] w fun en w' => en = .returned (.tuple #[.int .i64 0, .bool false]) ∧ Kept w w' := by
  obtain ⟨eu, u0, u1⟩ := wv v
  obtain ⟨c, hc⟩ : ∃ c, wrap64 (wl v) = c := ⟨_, rfl⟩
  have c0 : -9223372036854775808 ≤ c := by rw [← hc]; unfold wrap64; omega
  have c1 : c ≤ 9223372036854775807 := by rw [← hc]; unfold wrap64; omega
  have e2 : wl c = wl v := by rw [← hc]; unfold wrap64 wl; omega
  have n1 : ¬ wh v = wh c := by
    obtain ⟨ec, _, _⟩ := wv c
    intro k
    rw [k, ← e2] at eu
    omega
  generalize wl v = L at *
  generalize wh v = H at *
  have n2 : (H == wh c) = false := by simpa using n1
  clear eu n1 h
  go_enter Try.func18, Try.ntmps18
  go_wp2_with fail
  first | (go_region_held3 (fun W => W.cell? ⟨w.heap.size, 0, none⟩ = some (.int .i64 H) ∧ W.cell? ⟨w.heap.size, 1, none⟩ = some (.int .u64 L)) (go_keep) (first | (go_at_call 7; refine (of_w c (by omega) (by omega) _).mono ?_; rintro e w' ⟨rfl, hk⟩; refine kuse (b := w.heap.size) hk (by first | (simp; done) | (simp; omega) | omega) ?_; intro hq hg; have hy : w.heap.size < w'.heap.size := (by have := hk.size; (try simp at this); omega)))) | fail
  all_goals go_wp2_with fail
  all_goals go_ret2
  exact ⟨rfl, (by repeat (first | with_reducible exact Kept.refl _ | with_reducible assumption | with_reducible refine Kept.setCell ?_ (by first | (simp; done) | (simp; omega) | omega) _ | with_reducible refine Kept.alloc ?_ _ | with_reducible refine Kept.drewN ?_ _ | with_reducible refine Kept.drew ?_ | with_reducible refine Kept.trans ?_ (by with_reducible assumption) | with_reducible refine Kept.dr ?_ (by with_reducible assumption)))⟩
theorem wmag_neg (u : Int) (h : u < 0) : wmag u = -u := by unfold wmag; rw [if_pos h]
theorem wmag_pos (u : Int) (h : ¬ u < 0) : wmag u = u := by unfold wmag; rw [if_neg h]
theorem agg2e {a b c d : Int} {x y : Bool} (h : a = c ∧ b = d) (h3 : x = y) : Ending.returned (.tuple #[.agg #[.int .i64 a, .int .u64 b], .bool x]) = .returned (.tuple #[.agg #[.int .i64 c, .int .u64 d], .bool y]) := by rw [h.1, h.2, h3]
theorem wh127 : wh 170141183460469231731687303715884105728 = 9223372036854775808 := by decide
theorem wl127 : wl 170141183460469231731687303715884105728 = 0 := by decide
def wcm (u v : Int) : Int := if u < v then -1 else if u = v then 0 else 1
theorem cmp_w (u v : Int) (w : World) : Calls Try.prog 17 #[.agg #[.int .i64 (wh u), .int .u64 (wl u)], .agg #[.int .i64 (wh v), .int .u64 (wl v)]] w fun e w' => e = .returned (.int .i64 (wcm u v)) ∧ Kept w w' := by
  unfold wcm
  by_cases h : u < v
  · rw [if_pos h]; exact cmp_lt u v h w
  · by_cases h2 : u = v
    · subst h2; rw [if_neg h, if_pos rfl]; exact cmp_eq u w
    · rw [if_neg h, if_neg h2]; exact cmp_gt u v (by omega) w
end Go.Proofs.Ytfmijkbmedfcfaa
