/-
  Own contracts over the landed program: math/bits.Mul64, Len64, LeadingZeros64, Div64 (no panic where the high word is below the divisor), with the plain numbers they need.
-/
import Derived.Test.YtfmijkbmedfcfaaNum
import Derived.Test.YtfmijkbmedfcfaaRows
import Derived.Test.YtfmijkbmedfcfaaBase
import Derived.WalkKit
import Derived.ProofKit
import Derived.OpenShut
import Derived.WalkLawsBesides
import Derived.WalkSpells
import Derived.Lib.Hide
import Derived.Deep.DeepCutAuto
import Derived.Deep.CutBlock
import Derived.Deep.QuietTactic
import Derived.BigQuiet
import Derived.Handy
namespace Go.Proofs.Ytfmijkbmedfcfaa
open Go.ChangeShapes Go.WideShapes Go.ChangeAt Go.RowKit
set_option linter.unusedVariables false
set_option linter.unusedSimpArgs false

theorem mul64_w (a b : Int) (h0 : 0 ≤ a) (h1 : a ≤ 18446744073709551615) (h2 : 0 ≤ b) (h3 : b ≤ 18446744073709551615) (w : World) :
    Calls Try.prog 19 #[.int .u64 a, .int .u64 b] w fun e w' => e = .returned (.tuple #[.int .u64 (a * b / 18446744073709551616), .int .u64 (a * b % 18446744073709551616)]) ∧ w = w' := by
  have hi := mul_hi a b h0 h1 h2 h3
  obtain ⟨p, q, r, s, ep, eq, er, es, hp, hp', hq, hq', hr, hr', hs, hs', e⟩ := mul64_math a b h0 h1 h2 h3
  rw [← ep, ← eq, ← er, ← es] at hi
  have HI := Lib.hid hi
  clear hi e
  have ea := and32 a h0 h1
  have eb := and32 b h2 h3
  have et := and32 (q + s / 4294967296) (by omega) (by omega)
  have ep' := ep.symm
  have eq' := eq.symm
  have er' := er.symm
  have es' := es.symm
  clear ep eq er es
  go_enter Try.func19, Try.ntmps19
  go_wp2
  go_ret2
  refine ⟨?_, rfl⟩
  show Ending.returned (.tuple #[.int .u64 _, .int .u64 _]) = _
  rw [← HI.out, ← IntKind.wrap_u64 (a * b)]
theorem len64_end (t : ByteArray) (ht : t = len8) (x k : Int) (h0 : 0 ≤ x) (h1 : x < 256) (hk : 0 ≤ k) (hk' : k ≤ 56) (h : x.toNat < t.size) : wrap64 (k + wrap64 (t[x.toNat].toNat : Int)) = blen x + k := by
  have e := len8_at t ht x.toNat h (by omega)
  rw [e]
  have hb : nlen x.toNat ≤ 8 := by
    by_cases z : x.toNat = 0
    · rw [z]; decide
    · have ⟨a1, a2, a3⟩ := nlen_bd _ z
      have : 2 ^ (nlen x.toNat - 1) < 2 ^ 8 := by omega
      have := (Nat.pow_lt_pow_iff_right (a := 2) (by omega)).1 this
      omega
  unfold blen
  have e1 : wrap64 (nlen x.toNat : Int) = (nlen x.toNat : Int) := IntWalk.wrap64_in _ (by omega)
  rw [e1]
  have e2 : wrap64 (k + (nlen x.toNat : Int)) = k + (nlen x.toNat : Int) := IntWalk.wrap64_in _ (by omega)
  rw [e2]; omega
theorem len64_end0 (t : ByteArray) (ht : t = len8) (x : Int) (h0 : 0 ≤ x) (h1 : x < 256) (h : x.toNat < t.size) : wrap64 (wrap64 (t[x.toNat].toNat : Int)) = blen x := by
  have := len64_end t ht x 0 h0 h1 (by omega) (by omega) h
  rw [Int.zero_add] at this; omega

set_option maxRecDepth 100000 in
theorem len64_w (a : Int) (h0 : 0 ≤ a) (h1 : a ≤ 18446744073709551615) (w : World) :
    Calls Try.prog 35 #[.int .u64 a] w fun e w' => e = .returned (.int .i64 (blen a)) ∧ w = w' := by
  have S : blen a = blen a + 0 := by omega
  by_cases c0 : 4294967296 ≤ a
  · have T := blen_shift a 32 4294967296 (by rfl) c0
    have b0 : 0 ≤ a / 4294967296 := by omega
    have b1 : a / 4294967296 < 4294967296 := by omega
    generalize hx0 : a / 4294967296 = x at *
    have S' : blen a = blen x + 32 := by rw [S, T]; omega
    clear S T
    have S := S'
    clear S'
    by_cases c1 : 65536 ≤ x
    · have T := blen_shift x 16 65536 (by rfl) c1
      have b0 : 0 ≤ x / 65536 := by omega
      have b1 : x / 65536 < 65536 := by omega
      generalize hx1 : x / 65536 = y at *
      have S' : blen a = blen y + 48 := by rw [S, T]; omega
      clear S T
      have S := S'
      clear S'
      by_cases c2 : 256 ≤ y
      · have T := blen_shift y 8 256 (by rfl) c2
        have b0 : 0 ≤ y / 256 := by omega
        have b1 : y / 256 < 256 := by omega
        generalize hx2 : y / 256 = z at *
        have S' : blen a = blen z + 56 := by rw [S, T]; omega
        clear S T
        have S := S'
        clear S'
        have HS := Lib.hid S
        clear S
        go_enter Try.func35, Try.ntmps35
        go_wp2
        go_ret
        refine ⟨?_, rfl⟩
        show Ending.returned (.int .i64 _) = _
        rw [len64_end _ (by rfl) z 56 (by omega) (by omega) (by omega) (by omega) (by show _ < 256; omega), HS.out]
      · have HS := Lib.hid S
        clear S
        go_enter Try.func35, Try.ntmps35
        go_wp2
        go_ret
        refine ⟨?_, rfl⟩
        show Ending.returned (.int .i64 _) = _
        rw [len64_end _ (by rfl) y 48 (by omega) (by omega) (by omega) (by omega) (by show _ < 256; omega), HS.out]
    · by_cases c2 : 256 ≤ x
      · have T := blen_shift x 8 256 (by rfl) c2
        have b0 : 0 ≤ x / 256 := by omega
        have b1 : x / 256 < 256 := by omega
        generalize hx2 : x / 256 = z at *
        have S' : blen a = blen z + 40 := by rw [S, T]; omega
        clear S T
        have S := S'
        clear S'
        have HS := Lib.hid S
        clear S
        go_enter Try.func35, Try.ntmps35
        go_wp2
        go_ret
        refine ⟨?_, rfl⟩
        show Ending.returned (.int .i64 _) = _
        rw [len64_end _ (by rfl) z 40 (by omega) (by omega) (by omega) (by omega) (by show _ < 256; omega), HS.out]
      · have HS := Lib.hid S
        clear S
        go_enter Try.func35, Try.ntmps35
        go_wp2
        go_ret
        refine ⟨?_, rfl⟩
        show Ending.returned (.int .i64 _) = _
        rw [len64_end _ (by rfl) x 32 (by omega) (by omega) (by omega) (by omega) (by show _ < 256; omega), HS.out]
  · by_cases c1 : 65536 ≤ a
    · have T := blen_shift a 16 65536 (by rfl) c1
      have b0 : 0 ≤ a / 65536 := by omega
      have b1 : a / 65536 < 65536 := by omega
      generalize hx1 : a / 65536 = y at *
      have S' : blen a = blen y + 16 := by rw [S, T]; omega
      clear S T
      have S := S'
      clear S'
      by_cases c2 : 256 ≤ y
      · have T := blen_shift y 8 256 (by rfl) c2
        have b0 : 0 ≤ y / 256 := by omega
        have b1 : y / 256 < 256 := by omega
        generalize hx2 : y / 256 = z at *
        have S' : blen a = blen z + 24 := by rw [S, T]; omega
        clear S T
        have S := S'
        clear S'
        have HS := Lib.hid S
        clear S
        go_enter Try.func35, Try.ntmps35
        go_wp2
        go_ret
        refine ⟨?_, rfl⟩
        show Ending.returned (.int .i64 _) = _
        rw [len64_end _ (by rfl) z 24 (by omega) (by omega) (by omega) (by omega) (by show _ < 256; omega), HS.out]
      · have HS := Lib.hid S
        clear S
        go_enter Try.func35, Try.ntmps35
        go_wp2
        go_ret
        refine ⟨?_, rfl⟩
        show Ending.returned (.int .i64 _) = _
        rw [len64_end _ (by rfl) y 16 (by omega) (by omega) (by omega) (by omega) (by show _ < 256; omega), HS.out]
    · by_cases c2 : 256 ≤ a
      · have T := blen_shift a 8 256 (by rfl) c2
        have b0 : 0 ≤ a / 256 := by omega
        have b1 : a / 256 < 256 := by omega
        generalize hx2 : a / 256 = z at *
        have S' : blen a = blen z + 8 := by rw [S, T]; omega
        clear S T
        have S := S'
        clear S'
        have HS := Lib.hid S
        clear S
        go_enter Try.func35, Try.ntmps35
        go_wp2
        go_ret
        refine ⟨?_, rfl⟩
        show Ending.returned (.int .i64 _) = _
        rw [len64_end _ (by rfl) z 8 (by omega) (by omega) (by omega) (by omega) (by show _ < 256; omega), HS.out]
      · have HS := Lib.hid S
        clear S
        go_enter Try.func35, Try.ntmps35
        go_wp2
        go_ret
        refine ⟨?_, rfl⟩
        show Ending.returned (.int .i64 _) = _
        rw [len64_end0 _ (by rfl) a (by omega) (by omega) (by show _ < 256; omega), HS.out]
theorem lz64_w (a : Int) (h0 : 0 ≤ a) (h1 : a ≤ 18446744073709551615) (w : World) :
    Calls Try.prog 34 #[.int .u64 a] w fun e w' => e = .returned (.int .i64 (64 - blen a)) ∧ w = w' := by
  have hb : 0 ≤ blen a ∧ blen a ≤ 64 := by
    by_cases z : a = 0
    · subst z; decide
    · obtain ⟨s, h2, h3, _⟩ := blen_bd a (by omega) h1; omega
  obtain ⟨hb0, hb1⟩ := hb
  go_enter Try.func34, Try.ntmps34
  go_wp2_with fail
  refine (len64_w a h0 h1 _).mono ?_
  rintro e w' ⟨rfl, rfl⟩
  go_wp2
  go_ret
  exact ⟨rfl, rfl⟩
/-- the high word is nought: one division -/
theorem div64_lo (b c : Int) (h2 : 0 ≤ b) (h3 : b ≤ 18446744073709551615) (h4 : 0 < c) (h5 : c ≤ 18446744073709551615) (w : World) :
    Calls Try.prog 31 #[.int .u64 0, .int .u64 b, .int .u64 c] w fun e w' => e = .returned (.tuple #[.int .u64 (b / c), .int .u64 (b % c)]) ∧ Dr w w' := by
  have hc : (c == 0) = false := by rw [beq_eq_false_iff_ne]; omega
  go_enter Try.func31, Try.ntmps31
  go_wp2
  go_quiet (fail)
  go_wp2
  go_ret2
  exact ⟨rfl, ⟨_, rfl⟩⟩

/-- what a round of the correcting loop knows -/
def Round (y1 y0 u v1 D : Int) (q r : Int) : Prop := D ≤ q ∧ q ≤ 4294967297 ∧ r = u - q * y1 ∧ 0 ≤ r ∧ r ≤ 4294967295
theorem round_at {y1 y0 u v1 D r : Int} (hy0 : 0 ≤ y0) (hy0' : y0 ≤ 4294967295) (hD : D = dig (y1 * 4294967296 + y0) (u * 4294967296 + v1)) (hy1 : 2147483648 ≤ y1) (d0 : 0 ≤ D) (d1 : D ≤ 4294967295) (h : Round y1 y0 u v1 D D r) :
    0 ≤ D * y0 ∧ D * y0 ≤ 18446744073709551615 ∧ D * y0 ≤ 4294967296 * r + v1 := by
  obtain ⟨_, _, hr, _, _⟩ := h
  have := le_mul D y0 4294967295 4294967295 d0 d1 hy0 hy0'
  refine ⟨this.1, by omega, ?_⟩
  rw [hr]; refine digit_stop y1 y0 u v1 D hy1 hy0 ?_
  rw [hD]; exact (dig_mul _ _ (by omega)).1
theorem round_above {y1 y0 u v1 D q r : Int} (hy0 : 0 ≤ y0) (hy0' : y0 ≤ 4294967295) (hD : D = dig (y1 * 4294967296 + y0) (u * 4294967296 + v1)) (hy1 : 2147483648 ≤ y1) (d0 : 0 ≤ D) (h : Round y1 y0 u v1 D q r) (hne : D < q) (hlt : q ≤ 4294967295) :
    0 ≤ q * y0 ∧ q * y0 ≤ 18446744073709551615 ∧ 4294967296 * r + v1 < q * y0 := by
  obtain ⟨_, _, hr, _, _⟩ := h
  have := le_mul q y0 4294967295 4294967295 (by omega) hlt hy0 hy0'
  refine ⟨this.1, by omega, ?_⟩
  rw [hr]; refine digit_go y1 y0 u v1 q hy1 hy0 ?_
  have h2 := (dig_mul (y1 * 4294967296 + y0) (u * 4294967296 + v1) (by omega)).2
  rw [← hD] at h2
  have h3 : (D + 1) * (y1 * 4294967296 + y0) ≤ q * (y1 * 4294967296 + y0) := Int.mul_le_mul_of_nonneg_right (by omega) (by omega)
  rw [Int.add_mul] at h3; omega
theorem round_next {y1 y0 u v1 D q r : Int} (h : Round y1 y0 u v1 D q r) (hne : D < q) (hy1 : 0 ≤ y1) (hb : r + y1 ≤ 4294967295) : Round y1 y0 u v1 D (q - 1) (r + y1) := by
  obtain ⟨_, _, hr, _, _⟩ := h
  exact ⟨by omega, by omega, by rw [Int.sub_mul]; omega, by omega, hb⟩
theorem round_break {y1 y0 u v1 D q r : Int} (hy0 : 0 ≤ y0) (hy0' : y0 ≤ 4294967295) (hD : D = dig (y1 * 4294967296 + y0) (u * 4294967296 + v1)) (hy1 : 2147483648 ≤ y1) (d0 : 0 ≤ D) (hv : 0 ≤ v1) (h : Round y1 y0 u v1 D q r) (hne : D < q) (hb : 4294967296 ≤ r + y1) : q - 1 = D := by
  obtain ⟨_, _, hr, _, _⟩ := h
  have h1 : q - 1 ≤ D := by
    rw [hD]; refine dig_ge _ _ _ (by omega) (digit_le y1 y0 u v1 (q - 1) ?_)
    have := le_mul (q - 1) y0 4294967296 4294967295 (by omega) (by omega) hy0 hy0'
    have e : u - (q - 1) * y1 = r + y1 := by rw [Int.sub_mul]; omega
    rw [e]; omega
  omega

set_option maxHeartbeats 800000 in
theorem div64_hi (a b c : Int) (h0 : 0 < a) (h2 : 0 ≤ b) (h3 : b ≤ 18446744073709551615) (h5 : c ≤ 18446744073709551615) (h6 : a < c) (w : World) :
    Calls Try.prog 31 #[.int .u64 a, .int .u64 b, .int .u64 c] w fun e w' => e = .returned (.tuple #[.int .u64 ((a * 18446744073709551616 + b) / c), .int .u64 ((a * 18446744073709551616 + b) % c)]) ∧ Dr w w' := by
  have hc : (c == 0) = false := by rw [beq_eq_false_iff_ne]; omega
  have ha : (a == 0) = false := by rw [beq_eq_false_iff_ne]; omega
  obtain ⟨s, hs, hbl, hy, hy'⟩ := blen_bd c (by omega) h5
  obtain ⟨u, v, eu, ev, hu, hu', hv, hv', et⟩ := norm_words a b c s hs (by omega) h2 h3 h6 hy'
  have ⟨sb1, sb2⟩ := shift_back (a * 18446744073709551616 + b) c s (by omega)
  have ey : IntKind.u64.wrap (c * 2 ^ s) = c * 2 ^ s := IntWalk.u64_in _ (by omega)
  rw [← et] at sb1 sb2
  generalize hyy : c * 2 ^ s = y at *
  have ey1 : y / 4294967296 = y / 4294967296 := rfl
  have ey0 := and32 y (by omega) hy'
  have ev0 := and32 v (by omega) hv'
  have es : (64 - blen c).toNat = s := by omega
  have es' : (64 - (64 - blen c)).toNat = 64 - s := by omega
  have hbb : 0 ≤ 64 - blen c ∧ 64 - blen c ≤ 63 := by omega
  have lz := lz64_w c (by omega) h5
  generalize 64 - blen c = S at *
  have td := two_digits y u (v / 4294967296) (v % 4294967296) (by omega) hu hu' (by omega) (by omega) (by omega) (by omega)
  obtain ⟨d1a, d1b, ma, mb, d0a, d0b, hq, hr, hr0, hr1⟩ := td
  have hqy : v / 4294967296 * 4294967296 + v % 4294967296 = v := by omega
  rw [hqy] at hq hr
  rw [sb1] at hq
  have st := dig_start (y / 4294967296) (y % 4294967296) u (v / 4294967296) (by omega) (by omega) (by omega) (by omega) hu (by omega) (by omega) (by omega)
  rw [show y / 4294967296 * 4294967296 + y % 4294967296 = y from by omega] at st
  generalize hD1 : dig y (u * 4294967296 + v / 4294967296) = D1 at *
  generalize hM : u * 4294967296 + v / 4294967296 - D1 * y = M at *
  have st0 := dig_start (y / 4294967296) (y % 4294967296) M (v % 4294967296) (by omega) (by omega) (by omega) (by omega) ma (by omega) (by omega) (by omega)
  rw [show y / 4294967296 * 4294967296 + y % 4294967296 = y from by omega] at st0
  generalize hD0 : dig y (M * 4294967296 + v % 4294967296) = D0 at *
  have fin : (M * 4294967296 + v % 4294967296 - D0 * y) / 2 ^ s = (a * 18446744073709551616 + b) % c := by rw [hr, hq]; rw [sb1] at sb2; exact sb2
  generalize hR : M * 4294967296 + v % 4294967296 - D0 * y = R at *
  -- what the words of the walk come to
  have w1 : IntKind.u64.wrap (IntKind.u64.wrap (IntKind.u64.wrap (u * 4294967296) + v / 4294967296) - IntKind.u64.wrap (D1 * y)) = M := by
    simp only [IntKind.wrap_u64]; rw [← hM]; generalize D1 * y = p at *; omega
  have w0 : IntKind.u64.wrap (IntKind.u64.wrap (IntKind.u64.wrap (M * 4294967296) + v % 4294967296) - IntKind.u64.wrap (D0 * y)) = R := by
    simp only [IntKind.wrap_u64]; rw [← hR]; generalize D0 * y = p at *; omega
  have LZ := Lib.hid lz
  clear lz
  have HD1 : Hid (D1 = dig (y / 4294967296 * 4294967296 + y % 4294967296) (u * 4294967296 + v / 4294967296)) := by rw [show y / 4294967296 * 4294967296 + y % 4294967296 = y from by omega]; exact hD1.symm
  have HD0 : Hid (D0 = dig (y / 4294967296 * 4294967296 + y % 4294967296) (M * 4294967296 + v % 4294967296)) := by rw [show y / 4294967296 * 4294967296 + y % 4294967296 = y from by omega]; exact hD0.symm
  have HQ := Lib.hid hq
  have FIN := Lib.hid fin
  clear hq fin hr hR hM hD0 hD1 sb1 sb2 et hqy ey1 hbl
  obtain ⟨y1, hy1⟩ : ∃ y1, y / 4294967296 = y1 := ⟨_, rfl⟩
  obtain ⟨y0, hy0⟩ : ∃ y0, y % 4294967296 = y0 := ⟨_, rfl⟩
  obtain ⟨v1, hv1⟩ : ∃ v1, v / 4294967296 = v1 := ⟨_, rfl⟩
  obtain ⟨v0, hv0⟩ : ∃ v0, v % 4294967296 = v0 := ⟨_, rfl⟩
  have by1 : 2147483648 ≤ y1 ∧ y1 ≤ 4294967295 := by omega
  have by0 : 0 ≤ y0 ∧ y0 ≤ 4294967295 := by omega
  have bv1 : 0 ≤ v1 ∧ v1 ≤ 4294967295 := by omega
  have bv0 : 0 ≤ v0 ∧ v0 ≤ 4294967295 := by omega
  rw [hy1] at st st0
  rw [hy1, hy0, hv1] at HD1
  rw [hy1, hy0, hv0] at HD0
  rw [hy0] at ey0
  rw [hv0] at ev0 w0
  rw [hv1] at w1
  clear hy0 hv0
  obtain ⟨Q1, hQ1⟩ : ∃ Q1, u / y1 = Q1 := ⟨_, rfl⟩
  obtain ⟨Q0, hQ0⟩ : ∃ Q0, M / y1 = Q0 := ⟨_, rfl⟩
  rw [hQ1] at st
  rw [hQ0] at st0
  have hQ1' : IntKind.u64.wrap (u.tdiv y1) = Q1 := by rw [← hQ1]; exact IntWalk.u64_quo _ _ ⟨by omega, by omega, by omega⟩
  have hQ0' : IntKind.u64.wrap (M.tdiv y1) = Q0 := by rw [← hQ0]; exact IntWalk.u64_quo _ _ ⟨by omega, by omega, by omega⟩
  clear hQ1 hQ0
  obtain ⟨r1, hr1'⟩ : ∃ r1, u - Q1 * y1 = r1 := ⟨_, rfl⟩
  obtain ⟨r0, hr0'⟩ : ∃ r0, M - Q0 * y1 = r0 := ⟨_, rfl⟩
  have p1 : 0 ≤ Q1 * y1 := Int.mul_nonneg (by omega) (by omega)
  have p0 : 0 ≤ Q0 * y1 := Int.mul_nonneg (by omega) (by omega)
  have R1 : Hid (Round y1 y0 u v1 D1 Q1 r1) := ⟨by omega, by omega, hr1'.symm, by omega, by omega⟩
  have R0 : Hid (Round y1 y0 M v0 D0 Q0 r0) := ⟨by omega, by omega, hr0'.symm, by omega, by omega⟩
  have x1 : IntKind.u64.wrap (u - IntKind.u64.wrap (Q1 * y1)) = r1 := by rw [IntWalk.u64_in (Q1 * y1) (by omega), hr1', IntWalk.u64_in _ (by omega)]
  have x0 : IntKind.u64.wrap (M - IntKind.u64.wrap (Q0 * y1)) = r0 := by rw [IntWalk.u64_in (Q0 * y1) (by omega), hr0', IntWalk.u64_in _ (by omega)]
  go_enter Try.func31, Try.ntmps31
  go_wp2_with fail
  refine (LZ.out _).mono ?_
  rintro e w' ⟨rfl, rfl⟩
  go_upto_block 0 with fail
  go_cut [15] (fun q wx => q = .int .u64 D1 ∧ wx = w)
  case first =>
    go_wp2_with fail
    go_loop [15, 16] (fun t r => ∃ q r' : Int, t = .int .u64 q ∧ r = .int .u64 r' ∧ Round y1 y0 u v1 D1 q r') (fun t _ => (intOf t).toNat)
    case atStart => exact ⟨Q1, r1, rfl, rfl, R1.out⟩
    case round =>
      obtain ⟨q, r', rfl, rfl, hR⟩ := hrel
      have hRb := hR
      obtain ⟨hq1, hq2, hq3, hq4, hq5⟩ := hRb
      clear hq3
      by_cases e : q = D1
      · subst e
        have ⟨f1, f2, f3⟩ := round_at by0.1 by0.2 HD1.out by1.1 d1a d1b hR
        have HR := Lib.hid hR
        clear hR
        have f4 : ¬ 4294967296 ≤ q := by omega
        have f5 : ¬ 4294967296 * r' + v1 < q * y0 := by omega
        go_wp2
        go_meet
        case rel => exact ⟨rfl, rfl⟩
      · have hlt : D1 < q := by omega
        have g1 : r' + y1 ≤ 4294967295 → Round y1 y0 u v1 D1 (q - 1) (r' + y1) := fun h => round_next hR hlt (by omega) h
        have g2 : 4294967296 ≤ r' + y1 → q - 1 = D1 := fun h => round_break by0.1 by0.2 HD1.out by1.1 d1a bv1.1 hR hlt h
        have g3 : q ≤ 4294967295 → 0 ≤ q * y0 ∧ q * y0 ≤ 18446744073709551615 ∧ 4294967296 * r' + v1 < q * y0 := fun h => round_above by0.1 by0.2 HD1.out by1.1 d1a hR hlt h
        clear hR
        have G1 := Lib.hid g1
        have G2 := Lib.hid g2
        clear g1 g2 e
        by_cases c1 : 4294967296 ≤ q
        · clear g3
          by_cases c2 : 4294967296 ≤ r' + y1
          · have e := G2.out c2
            go_wp2
            go_meet
            case rel => exact ⟨rfl, rfl⟩
          · have e := G1.out (by omega)
            have E := Lib.hid e
            clear e
            go_wp2
            go_round
            case rel => exact ⟨_, _, rfl, rfl, E.out⟩
            case measure => simp [intOf]; omega
        · obtain ⟨g4, g5, g6⟩ := g3 (by omega)
          by_cases c2 : 4294967296 ≤ r' + y1
          · have e := G2.out c2
            go_wp2
            go_meet
            case rel => exact ⟨rfl, rfl⟩
          · have e := G1.out (by omega)
            have E := Lib.hid e
            clear e
            go_wp2
            go_round
            case rel => exact ⟨_, _, rfl, rfl, E.out⟩
            case measure => simp [intOf]; omega
  case rest =>
    obtain ⟨rfl, rfl⟩ := hcut
    go_upto_block 2 with fail
    go_cut [18] (fun q wx => q = .int .u64 D0 ∧ wx = wc)
    case first =>
      go_wp2_with fail
      go_loop [18, 16] (fun t r => ∃ q r' : Int, t = .int .u64 q ∧ r = .int .u64 r' ∧ Round y1 y0 M v0 D0 q r') (fun t _ => (intOf t).toNat)
      case atStart => exact ⟨Q0, r0, rfl, rfl, R0.out⟩
      case round =>
        obtain ⟨q, r', rfl, rfl, hR⟩ := hrel
        have hRb := hR
        obtain ⟨hq1, hq2, hq3, hq4, hq5⟩ := hRb
        clear hq3
        by_cases e : q = D0
        · subst e
          have ⟨f1, f2, f3⟩ := round_at by0.1 by0.2 HD0.out by1.1 d0a d0b hR
          have HR := Lib.hid hR
          clear hR
          have f4 : ¬ 4294967296 ≤ q := by omega
          have f5 : ¬ 4294967296 * r' + v0 < q * y0 := by omega
          go_wp2
          go_meet
          case rel => exact ⟨rfl, rfl⟩
        · have hlt : D0 < q := by omega
          have g1 : r' + y1 ≤ 4294967295 → Round y1 y0 M v0 D0 (q - 1) (r' + y1) := fun h => round_next hR hlt (by omega) h
          have g2 : 4294967296 ≤ r' + y1 → q - 1 = D0 := fun h => round_break by0.1 by0.2 HD0.out by1.1 d0a bv0.1 hR hlt h
          have g3 : q ≤ 4294967295 → 0 ≤ q * y0 ∧ q * y0 ≤ 18446744073709551615 ∧ 4294967296 * r' + v0 < q * y0 := fun h => round_above by0.1 by0.2 HD0.out by1.1 d0a hR hlt h
          clear hR
          have G1 := Lib.hid g1
          have G2 := Lib.hid g2
          clear g1 g2 e
          by_cases c1 : 4294967296 ≤ q
          · clear g3
            by_cases c2 : 4294967296 ≤ r' + y1
            · have e := G2.out c2
              go_wp2
              go_meet
              case rel => exact ⟨rfl, rfl⟩
            · have e := G1.out (by omega)
              have E := Lib.hid e
              clear e
              go_wp2
              go_round
              case rel => exact ⟨_, _, rfl, rfl, E.out⟩
              case measure => simp [intOf]; omega
          · obtain ⟨g4, g5, g6⟩ := g3 (by omega)
            by_cases c2 : 4294967296 ≤ r' + y1
            · have e := G2.out c2
              go_wp2
              go_meet
              case rel => exact ⟨rfl, rfl⟩
            · have e := G1.out (by omega)
              have E := Lib.hid e
              clear e
              go_wp2
              go_round
              case rel => exact ⟨_, _, rfl, rfl, E.out⟩
              case measure => simp [intOf]; omega
    case rest =>
      obtain ⟨rfl, rfl⟩ := hcut
      have bq : 0 ≤ D1 * 4294967296 + D0 ∧ D1 * 4294967296 + D0 ≤ 18446744073709551615 := by omega
      go_wp2
      go_ret2
      refine ⟨?_, Dr.refl _⟩
      rw [← HQ.out, ← FIN.out]
      rfl

theorem div64_w (a b c : Int) (h0 : 0 ≤ a) (h2 : 0 ≤ b) (h3 : b ≤ 18446744073709551615) (h5 : c ≤ 18446744073709551615) (h6 : a < c) (w : World) :
    Calls Try.prog 31 #[.int .u64 a, .int .u64 b, .int .u64 c] w fun e w' => e = .returned (.tuple #[.int .u64 ((a * 18446744073709551616 + b) / c), .int .u64 ((a * 18446744073709551616 + b) % c)]) ∧ Dr w w' := by
  by_cases h : a = 0
  · subst h
    rw [Int.zero_mul, Int.zero_add]
    exact div64_lo b c h2 h3 (by omega) h5 w
  · exact div64_hi a b c (by omega) h2 h3 h5 h6 w
end Go.Proofs.Ytfmijkbmedfcfaa
