/-
  Own contracts over the landed statement's packages: the document's answers of layer 1.
-/
import Derived.Test.YtfkgghjinkmpiaaDoorFixed
import Derived.WalkKit
import Derived.ProofKit
import Derived.OpenShut
import Derived.WalkLawsBesides
import Derived.WalkSpells
import Derived.Lib.Hide
import Derived.Deep.DeepCutAuto
import Derived.Deep.CutBlock
import Derived.Deep.QuietTactic
import Derived.BigQuiet
import Derived.Handy
namespace Go.Proofs.YtfkgghjinkmpiaaDoor
open Go.ChangeShapes Go.WideShapes Go.ChangeAt Go.RowKit
set_option linter.unusedVariables false
set_option linter.unusedSimpArgs false

/-! a division bit by bit -/
def Inv (c T : Int) (i : Nat) (H L qh ql r : Int) : Prop :=
  ∃ P : Int, P * 340282366920938463463374607431768211456 + (H * 18446744073709551616 + L) = T * 2 ^ i ∧ P = (qh * 18446744073709551616 + ql) * c + r ∧ 0 ≤ r ∧ r < c ∧ 0 ≤ H ∧ H ≤ 18446744073709551615 ∧ 0 ≤ L ∧ L ≤ 18446744073709551615 ∧ 0 ≤ qh ∧ qh ≤ 18446744073709551615 ∧ 0 ≤ ql ∧ ql ≤ 18446744073709551615
theorem pow_mono (i j : Nat) (h : i ≤ j) : (2 : Int) ^ i ≤ 2 ^ j := by
  have := Nat.pow_le_pow_right (n := 2) (by omega) h
  exact_mod_cast this
theorem inv_step (c T : Int) (i : Nat) (hi : i < 128) (H L qh ql r : Int) (hT : 0 ≤ T) (hT' : T < 340282366920938463463374607431768211456) (hc : 0 < c) (h : Inv c T i H L qh ql r) :
    (2 * r + H / 9223372036854775808 < c → Inv c T (i + 1) (H * 2 % 18446744073709551616 + L / 9223372036854775808) (L * 2 % 18446744073709551616) (qh * 2 % 18446744073709551616 + ql / 9223372036854775808) (ql * 2 % 18446744073709551616) (2 * r + H / 9223372036854775808))
    ∧ (c ≤ 2 * r + H / 9223372036854775808 → Inv c T (i + 1) (H * 2 % 18446744073709551616 + L / 9223372036854775808) (L * 2 % 18446744073709551616) (qh * 2 % 18446744073709551616 + ql / 9223372036854775808) (ql * 2 % 18446744073709551616 + 1) (2 * r + H / 9223372036854775808 - c)) := by
  obtain ⟨P, h1, h2, h3, h4, h5, h6, h7, h8, h9, h10, h11, h12⟩ := h
  have hpow : T * 2 ^ (i + 1) = 2 * (T * 2 ^ i) := by rw [Int.pow_succ, ← Int.mul_assoc]; omega
  have hle : (2 : Int) ^ (i + 1) ≤ 340282366920938463463374607431768211456 := by
    exact pow_mono (i + 1) 128 (by omega)
  have hT2 : T * 2 ^ (i + 1) ≤ T * 340282366920938463463374607431768211456 := Int.mul_le_mul_of_nonneg_left hle hT
  have hPT : 2 * P + H / 9223372036854775808 ≤ T := by
    rw [hpow] at hT2; omega
  have hQ : 0 ≤ qh * 18446744073709551616 + ql := by omega
  have hQc : 2 * (qh * 18446744073709551616 + ql) ≤ 2 * ((qh * 18446744073709551616 + ql) * c) := by
    have := Int.mul_le_mul_of_nonneg_left (show 1 ≤ c by omega) hQ
    omega
  have hb : 0 ≤ H / 9223372036854775808 ∧ H / 9223372036854775808 ≤ 1 := by omega
  have hq2 : qh * 2 % 18446744073709551616 = qh * 2 := by omega
  have e1 : (qh * 2 % 18446744073709551616 + ql / 9223372036854775808) * 18446744073709551616 + ql * 2 % 18446744073709551616 = 2 * (qh * 18446744073709551616 + ql) := by omega
  refine ⟨fun hlt => ⟨2 * P + H / 9223372036854775808, by rw [hpow]; omega, ?_, by omega, hlt, by omega, by omega, by omega, by omega, by omega, by omega, by omega, by omega⟩, fun hge => ⟨2 * P + H / 9223372036854775808, by rw [hpow]; omega, ?_, by omega, by omega, by omega, by omega, by omega, by omega, by omega, by omega, by omega, by omega⟩⟩
  · rw [e1, Int.mul_assoc]; omega
  · rw [← Int.add_assoc, e1, Int.add_mul, Int.mul_assoc]; omega
theorem inv_end (c T H L qh ql r : Int) (hT : 0 ≤ T) (hc : 0 < c) (h : Inv c T 128 H L qh ql r) : T / c = qh * 18446744073709551616 + ql ∧ T % c = r := by
  obtain ⟨P, h1, h2, h3, h4, h5, h6, h7, h8, h9, h10, h11, h12⟩ := h
  have e : (2 : Int) ^ 128 = 340282366920938463463374607431768211456 := rfl
  rw [e] at h1
  have hP : P = T := by omega
  subst hP
  have hq : P / c = qh * 18446744073709551616 + ql := by
    rw [h2, Int.add_comm, Int.add_mul_ediv_right _ _ (by omega), Int.ediv_eq_zero_of_lt h3 h4]; omega
  refine ⟨hq, ?_⟩
  rw [Int.emod_def, hq, Int.mul_comm]; omega

theorem or_bit (x y : Int) (hx : 0 ≤ x) (hx' : x ≤ 18446744073709551615) (h : x % 2 = 0) (hy : 0 ≤ y) (hy' : y ≤ 1) : bits .or .u64 x y = x + y :=
  or_join x y 1 (by omega) hx hx' (by simpa using h) hy (by omega)

set_option maxRecDepth 100000 in
set_option maxHeartbeats 400000 in
theorem ref_divide_w (hi lo c : Int) (h0 : 0 ≤ hi) (h1 : hi ≤ 18446744073709551615) (h2 : 0 ≤ lo) (h3 : lo ≤ 18446744073709551615) (h4 : 0 < c) (h5 : c ≤ 18446744073709551615) (w : World) :
    Calls Tryd.prog 92 #[.int .u64 hi, .int .u64 lo, .int .u64 c] w fun e w' => e = .returned (.tuple #[.int .u64 ((hi * 18446744073709551616 + lo) / c / 18446744073709551616), .int .u64 ((hi * 18446744073709551616 + lo) / c % 18446744073709551616), .int .u64 ((hi * 18446744073709551616 + lo) % c)]) ∧ w = w' := by
  have inv0 : Inv c (hi * 18446744073709551616 + lo) 0 hi lo 0 0 0 := ⟨0, by rw [Int.pow_zero]; omega, by omega, by omega, h4, h0, h1, h2, h3, by omega, by omega, by omega, by omega⟩
  have hT : 0 ≤ hi * 18446744073709551616 + lo := by omega
  have hT' : hi * 18446744073709551616 + lo < 340282366920938463463374607431768211456 := by omega
  generalize hi * 18446744073709551616 + lo = T at *
  have I0 := Lib.hid inv0
  have HT := Lib.hid hT'
  clear inv0 hT'
  go_enter Tryd.func92, Tryd.ntmps92
  go_wp2_with fail
  go_loop [0, 1, 6, 7, 8, 9, 10] (fun a b q s r i _ => ∃ H L qh ql R : Int, ∃ k : Nat, k ≤ 128 ∧ a = .int .u64 H ∧ b = .int .u64 L ∧ q = .int .u64 qh ∧ s = .int .u64 ql ∧ r = .int .u64 R ∧ i = .int .i64 (k : Int) ∧ Inv c T k H L qh ql R) (fun _ _ _ _ _ i _ => (128 - intOf i).toNat)
  case atStart => exact ⟨hi, lo, 0, 0, 0, 0, by omega, rfl, rfl, rfl, rfl, rfl, rfl, I0.out⟩
  case round =>
    obtain ⟨H, L, qh, ql, R, k, hk, rfl, rfl, rfl, rfl, rfl, rfl, hI⟩ := hrel
    by_cases hlt : k < 128
    · have hs := inv_step c T k hlt H L qh ql R hT HT.out h4 hI
      obtain ⟨P, _, _, r1, r2, H1, H2, L1, L2, q1, q2, q3, q4⟩ := hI
      have e1 : bits .or .u64 (IntKind.u64.wrap (H * 2)) (L / 9223372036854775808) = H * 2 % 18446744073709551616 + L / 9223372036854775808 := by rw [IntKind.wrap_u64]; exact or_bit _ _ (by omega) (by omega) (by omega) (by omega) (by omega)
      have e2 : IntKind.u64.wrap (L * 2) = L * 2 % 18446744073709551616 := IntKind.wrap_u64 _
      have e3 : bits .or .u64 (IntKind.u64.wrap (qh * 2)) (ql / 9223372036854775808) = qh * 2 % 18446744073709551616 + ql / 9223372036854775808 := by rw [IntKind.wrap_u64]; exact or_bit _ _ (by omega) (by omega) (by omega) (by omega) (by omega)
      have e4 : IntKind.u64.wrap (ql * 2) = ql * 2 % 18446744073709551616 := IntKind.wrap_u64 _
      have e5 : bits .or .u64 (ql * 2 % 18446744073709551616) 1 = ql * 2 % 18446744073709551616 + 1 := or_bit _ _ (by omega) (by omega) (by omega) (by omega) (by omega)
      have e6 : bits .or .u64 (IntKind.u64.wrap (R * 2)) (H / 9223372036854775808) = R * 2 % 18446744073709551616 + H / 9223372036854775808 := by rw [IntKind.wrap_u64]; exact or_bit _ _ (by omega) (by omega) (by omega) (by omega) (by omega)
      have bb : 0 ≤ R * 2 % 18446744073709551616 + H / 9223372036854775808 := by omega
      obtain ⟨H', hH'⟩ : ∃ H', H * 2 % 18446744073709551616 + L / 9223372036854775808 = H' := ⟨_, rfl⟩
      obtain ⟨L', hL'⟩ : ∃ L', L * 2 % 18446744073709551616 = L' := ⟨_, rfl⟩
      obtain ⟨qh', hqh'⟩ : ∃ qh', qh * 2 % 18446744073709551616 + ql / 9223372036854775808 = qh' := ⟨_, rfl⟩
      obtain ⟨ql', hql'⟩ : ∃ ql', ql * 2 % 18446744073709551616 = ql' := ⟨_, rfl⟩
      obtain ⟨R', hR'⟩ : ∃ R', R * 2 % 18446744073709551616 + H / 9223372036854775808 = R' := ⟨_, rfl⟩
      rw [hH'] at e1 hs
      rw [hL'] at e2 hs
      rw [hqh'] at e3 hs
      rw [hql'] at e4 e5 hs
      rw [hR'] at e6 bb
      by_cases t : R / 9223372036854775808 = 1
      · have t' : (R / 9223372036854775808 == 1) = true := by rw [beq_iff_eq]; exact t
        have hI' := hs.2 (by omega)
        have e7 : IntKind.u64.wrap (R' - c) = 2 * R + H / 9223372036854775808 - c := by rw [IntKind.wrap_u64]; omega
        have HI := Lib.hid hI'
        clear hs hI' t hH' hL' hqh' hql' hR'
        go_wp2
        go_round
        case rel => exact ⟨_, _, _, _, _, k + 1, by omega, rfl, rfl, rfl, rfl, rfl, by go_num, HI.out⟩
        case measure => simp [intOf]; omega
      · have t' : (R / 9223372036854775808 == 1) = false := by rw [beq_eq_false_iff_ne]; exact t
        by_cases g : c ≤ R'
        · have hI' := hs.2 (by omega)
          have e7 : IntKind.u64.wrap (R' - c) = 2 * R + H / 9223372036854775808 - c := by rw [IntKind.wrap_u64]; omega
          have HI := Lib.hid hI'
          clear hs hI' t hH' hL' hqh' hql' hR'
          go_wp2
          go_round
          case rel => exact ⟨_, _, _, _, _, k + 1, by omega, rfl, rfl, rfl, rfl, rfl, by go_num, HI.out⟩
          case measure => simp [intOf]; omega
        · have hI' := hs.1 (by omega)
          rw [show 2 * R + H / 9223372036854775808 = R' from by omega] at hI'
          have HI := Lib.hid hI'
          clear hs hI' t hH' hL' hqh' hql' hR'
          go_wp2
          go_round
          case rel => exact ⟨_, _, _, _, _, k + 1, by omega, rfl, rfl, rfl, rfl, rfl, by go_num, HI.out⟩
          case measure => simp [intOf]; omega
    · obtain rfl : k = 128 := by omega
      have ⟨d1, d2⟩ := inv_end c T H L qh ql R hT h4 hI
      obtain ⟨P, _, _, r1, r2, H1, H2, L1, L2, q1, q2, q3, q4⟩ := hI
      have d3 : T / c / 18446744073709551616 = qh := by omega
      have d4 : T / c % 18446744073709551616 = ql := by omega
      have D2 := Lib.hid d2
      have D3 := Lib.hid d3
      have D4 := Lib.hid d4
      clear d1 d2 d3 d4
      go_wp2
      go_ret3
      refine ⟨?_, rfl⟩
      rw [D2.out, D3.out, D4.out]; rfl
theorem ref_size_w (a : Int) (h0 : -9223372036854775808 ≤ a) (h1 : a ≤ 9223372036854775807) (w : World) :
    Calls Tryd.prog 91 #[.int .i64 a] w fun e w' => e = .returned (.int .u64 a.natAbs) ∧ w = w' := by
  by_cases h : a < 0
  · have e : -(a + 1) + 1 = (a.natAbs : Int) := by omega
    have E := Lib.hid e
    clear e
    go_enter Tryd.func91, Tryd.ntmps91
    go_wp2
    go_ret
    refine ⟨?_, rfl⟩
    rw [← E.out]; rfl
  · have e : a = a.natAbs := by omega
    have E := Lib.hid e
    clear e
    go_enter Tryd.func91, Tryd.ntmps91
    go_wp2
    go_ret
    refine ⟨?_, rfl⟩
    show Ending.returned (.int .u64 _) = _
    rw [← E.out]
theorem ref_product_w (a b : Int) (h0 : 0 ≤ a) (h1 : a ≤ 18446744073709551615) (h2 : 0 ≤ b) (h3 : b ≤ 18446744073709551615) (w : World) :
    Calls Tryd.prog 90 #[.int .u64 a, .int .u64 b] w fun e w' => e = .returned (.tuple #[.int .u64 (a * b / 18446744073709551616), .int .u64 (a * b % 18446744073709551616)]) ∧ w = w' := by
  have hi := mul_hi a b h0 h1 h2 h3
  have lo := mul_lo a b h0 h1 h2 h3
  obtain ⟨p, q, r, s, ep, eq, er, es, hp, hp', hq, hq', hr, hr', hs, hs', e⟩ := mul64_math a b h0 h1 h2 h3
  rw [← ep, ← eq, ← er, ← es] at hi
  rw [← eq, ← er, ← es] at lo
  have ea := and32 a h0 h1
  have eb := and32 b h2 h3
  have et := and32 (q + s / 4294967296) (by omega) (by omega)
  have el := and32 s (by omega) (by omega)
  have bn : 0 ≤ r + (q + s / 4294967296) % 4294967296 := by omega
  have ej : bits .or .u64 (IntKind.u64.wrap ((r + (q + s / 4294967296) % 4294967296) * 4294967296)) (s % 4294967296) = (r + (q + s / 4294967296) % 4294967296) * 4294967296 % 18446744073709551616 + s % 4294967296 := by
    rw [IntKind.wrap_u64]
    exact or_join _ _ 32 (by omega) (by omega) (by omega) (by show _ % 4294967296 = 0; omega) (by omega) (by show _ < 4294967296; omega)
  rw [lo] at ej
  have hi' : p + (q + s / 4294967296) / 4294967296 + (r + (q + s / 4294967296) % 4294967296) / 4294967296 = a * b / 18446744073709551616 := by rw [← hi]; omega
  have HI := Lib.hid hi'
  have EJ := ej
  clear hi hi' lo e
  have ep' := ep.symm
  have eq' := eq.symm
  have er' := er.symm
  have es' := es.symm
  clear ep eq er es
  go_enter Tryd.func90, Tryd.ntmps90
  go_wp2
  go_ret2
  refine ⟨?_, rfl⟩
  rw [← HI.out]; rfl
theorem sg_err (x : Int) (n : Bool) (h : 9223372036854775808 < x ∨ (x = 9223372036854775808 ∧ n = false)) : sgV x n = 0 ∧ sgE x n = 2 := by
  unfold sgV sgE; rw [if_pos h, if_pos h]; exact ⟨rfl, rfl⟩
theorem sg_ok (x : Int) (n : Bool) (h : x ≤ 9223372036854775808) (h' : x < 9223372036854775808 ∨ ¬ n = false) : sgV x n = (if n then -x else x) ∧ sgE x n = 0 := by
  have hh : ¬ (9223372036854775808 < x ∨ (x = 9223372036854775808 ∧ n = false)) := by
    rintro (h1 | ⟨h1, h2⟩)
    · omega
    · rcases h' with h3 | h3
      · omega
      · exact h3 h2
  unfold sgV sgE; rw [if_neg hh, if_neg hh]; exact ⟨rfl, rfl⟩
theorem gr2_false (r D : Int) (n : Bool) (h1 : ¬ D - r < r) (h2 : ¬ r = D - r) : gr 2 r D n = false := by
  unfold gr
  by_cases z : r = 0
  · rw [if_pos z]
  · rw [if_neg z, if_neg (by omega), if_neg (by omega)]
    cases n <;> simp <;> omega

theorem xor_all (x : Int) (h0 : 0 ≤ x) (h1 : x ≤ 18446744073709551615) : bits .xor .u64 IntKind.u64.max x = 18446744073709551615 - x := by
  obtain ⟨n, rfl⟩ := Int.eq_ofNat_of_zero_le h0
  have e : IntKind.u64.max = 18446744073709551615 := by decide
  rw [e]
  show IntKind.u64.wrap ((BitVec.ofInt 64 18446744073709551615 ^^^ BitVec.ofInt 64 (n : Int)).toNat : Int) = _
  have e2 : BitVec.ofInt 64 18446744073709551615 = BitVec.allOnes 64 := by decide
  rw [e2, BitVec.allOnes_xor, BitVec.toNat_not, ofInt_u64 n (by omega), IntKind.wrap_u64]
  omega
theorem neg_walk (x : Int) (h0 : 0 ≤ x) (h1 : x ≤ 9223372036854775808) : wrap64 (IntKind.u64.wrap (bits .xor .u64 IntKind.u64.max x + 1)) = -x := by
  rw [xor_all x h0 (by omega), IntKind.wrap_u64]
  unfold wrap64; omega

set_option maxRecDepth 100000 in
set_option maxHeartbeats 4000000 in
theorem ref_quotient_w (a b c way : Int) (hw : way = 0 ∨ way = 1 ∨ way = 2) (a0 : -9223372036854775808 ≤ a) (a1 : a ≤ 9223372036854775807) (b0 : -9223372036854775808 ≤ b) (b1 : b ≤ 9223372036854775807) (c0 : -9223372036854775808 ≤ c) (c1 : c ≤ 9223372036854775807) (w : World) :
    Calls Tryd.prog 79 #[.int .i64 a, .int .i64 b, .int .i64 c, .int .i64 way] w fun e w' => e = .returned (.tuple #[.int .i64 (mqv way a b c), .int .i64 (mqe way a b c)]) ∧ w = w' := by
  by_cases hc : c = 0
  · subst hc
    have e1 : mqv way a b 0 = 0 := by simp [mqv]
    have e2 : mqe way a b 0 = 1 := by simp [mqe]
    go_enter Tryd.func79, Tryd.ntmps79
    go_wp2_with fail
    go_ret2
    refine ⟨?_, rfl⟩
    (try rw [e1]); (try rw [e2]); rfl
  · have hc' : (c == 0) = false := by rw [beq_eq_false_iff_ne]; exact hc
    have ab := natAbs_bd a a0 a1
    have bb := natAbs_bd b b0 b1
    have cb := natAbs_bd c c0 c1
    have cpos : 0 < (c.natAbs : Int) := by omega
    have pb := le_mul (a.natAbs : Int) b.natAbs 9223372036854775808 9223372036854775808 ab.1 ab.2 bb.1 bb.2
    obtain ⟨n, hn⟩ : ∃ n, neg3 a b c = n := ⟨_, rfl⟩
    have near := mq_sg way a b c hw hc n hn _ _ rfl rfl (Int.ediv_nonneg pb.1 (by omega))
    have MA := fun w => ref_size_w a a0 a1 w
    have MB := fun w => ref_size_w b b0 b1 w
    have MC := fun w => ref_size_w c c0 c1 w
    obtain ⟨A, hA⟩ : ∃ A : Int, (a.natAbs : Int) = A := ⟨_, rfl⟩
    obtain ⟨B, hB⟩ : ∃ B : Int, (b.natAbs : Int) = B := ⟨_, rfl⟩
    obtain ⟨D, hD⟩ : ∃ D : Int, (c.natAbs : Int) = D := ⟨_, rfl⟩
    rw [hA, hB, hD] at near
    rw [hA, hB] at pb
    rw [hA] at ab MA
    rw [hB] at bb MB
    rw [hD] at cb cpos MC
    obtain ⟨N, hN⟩ : ∃ N, A * B = N := ⟨_, rfl⟩
    rw [hN] at near pb
    have hr0 := Int.emod_nonneg N (show D ≠ 0 by omega)
    have hr1 := Int.emod_lt_of_pos N cpos
    have hqN : N / D ≤ N := Int.ediv_le_self _ pb.1
    obtain ⟨q, hq⟩ : ∃ q, N / D = q := ⟨_, rfl⟩
    obtain ⟨r, hr⟩ : ∃ r, N % D = r := ⟨_, rfl⟩
    have hq0 : 0 ≤ q := by rw [← hq]; exact Int.ediv_nonneg pb.1 (by omega)
    rw [hq] at near hqN
    rw [hr] at hr0 hr1 near
    have M1 := fun w => ref_product_w A B ab.1 (by omega) bb.1 (by omega) w
    rw [hN] at M1
    have hMA := Lib.hid MA
    have hMB := Lib.hid MB
    have hMC := Lib.hid MC
    have hM1 := Lib.hid M1
    have D1 := fun w => ref_divide_w (N / 18446744073709551616) (N % 18446744073709551616) D (by omega) (by omega) (by omega) (by omega) cpos (by omega) w
    rw [show N / 18446744073709551616 * 18446744073709551616 + N % 18446744073709551616 = N from by omega, hq, hr] at D1
    have hD1 := Lib.hid D1
    have hqb : q ≤ 85070591730234615865843651857942052864 := by omega
    have HQB := Lib.hid hqb
    generalize N / 18446744073709551616 = hi at *
    generalize N % 18446744073709551616 = lo at *
    have NEAR := Lib.hid near
    have HN := Lib.hid hn
    clear MA MB MC M1 D1 near hN hA hB hD hq hr pb hc hqN hqb hn
    have n1 : neg3 a b c = n := HN.out
    have n2 : c < 0 → (!(!(decide (a < 0) == decide (b < 0)))) = n := fun h => by rw [← n1]; simp [neg3, h]
    have n3 : ¬ c < 0 → (!(decide (a < 0) == decide (b < 0))) = n := fun h => by rw [← n1]; simp [neg3, h]
    have N2 := Lib.hid n2
    have N3 := Lib.hid n3
    clear n1 n2 n3
    go_enter Tryd.func79, Tryd.ntmps79
    go_upto_if 26 with fail
    go_cut [10] (fun m wx => m = .bool n ∧ wx = w)
    case first =>
      by_cases hcn : c < 0
      · have e := N2.out hcn
        have E := Lib.hid e
        clear e
        go_wp2_with fail
        go_meet
        case rel => exact ⟨by rw [← E.out]; first | rfl | simp, rfl⟩
      · have e := N3.out hcn
        have E := Lib.hid e
        clear e
        go_wp2_with fail
        go_meet
        case rel => exact ⟨by rw [← E.out], rfl⟩
    case rest =>
      obtain ⟨rfl, rfl⟩ := hcut
      go_wp2_with fail
      refine (hMA.out _).mono ?_
      rintro e w' ⟨rfl, rfl⟩
      go_wp2_with fail
      refine (hMB.out _).mono ?_
      rintro e w' ⟨rfl, rfl⟩
      go_wp2_with fail
      refine (hM1.out _).mono ?_
      rintro e w' ⟨rfl, rfl⟩
      go_wp2_with fail
      refine (hMC.out _).mono ?_
      rintro e w' ⟨rfl, rfl⟩
      go_wp2_with fail
      refine (hD1.out _).mono ?_
      rintro e w' ⟨rfl, rfl⟩
      go_wp2_with fail
      refine (hMC.out _).mono ?_
      rintro e w' ⟨rfl, rfl⟩
      have bqh : 0 ≤ q / 18446744073709551616 ∧ q / 18446744073709551616 ≤ 4611686018427387904 := by have := HQB.out; omega
      have bql : 0 ≤ q % 18446744073709551616 ∧ q % 18446744073709551616 ≤ 18446744073709551615 := by omega
      go_upto_region 9 with fail
      have bqq : q = q / 18446744073709551616 * 18446744073709551616 + q % 18446744073709551616 := by omega
      generalize q / 18446744073709551616 = qh at *
      generalize q % 18446744073709551616 = ql at *
      have hq1 : q ≤ qh * 18446744073709551616 + ql := by omega
      have hq2 : qh * 18446744073709551616 + ql ≤ q := by omega
      clear bqq
      cases n
      · rcases hw with rfl | rfl | rfl
        · have hg : gr 0 r D false = false := by simp [gr]
          have NE := NEAR.out
          rw [hg] at NE
          have hbi : bi false = 0 := rfl
          rw [hbi] at NE
          by_cases d1 : qh = 0
          · by_cases d2 : 9223372036854775808 < ql
            · have te := sg_err (q + 0) false (by first | (left; omega) | (right; exact ⟨by omega, rfl⟩))
              rw [te.1, te.2] at NE
              have d3 : (qh != 0) = false := by rw [bne_eq_false_iff_eq]; exact d1
              clear d1
              have E1 := Lib.hid NE.1
              have E2 := Lib.hid NE.2
              clear NE te hg
              go_wp2
              go_ret2
              refine ⟨?_, rfl⟩
              rw [E1.out, E2.out]
              rfl
            · by_cases d3 : ql = 9223372036854775808
              · have te := sg_err (q + 0) false (by first | (left; omega) | (right; exact ⟨by omega, rfl⟩))
                rw [te.1, te.2] at NE
                have d4 : (ql == 9223372036854775808) = true := by rw [beq_iff_eq]; exact d3
                have d5 : (qh != 0) = false := by rw [bne_eq_false_iff_eq]; exact d1
                clear d1 d3
                have E1 := Lib.hid NE.1
                have E2 := Lib.hid NE.2
                clear NE te hg
                go_wp2
                go_ret2
                refine ⟨?_, rfl⟩
                rw [E1.out, E2.out]
                rfl
              · have te := sg_ok (q + 0) false (by omega) (by first | (left; omega) | (right; intro h; cases h))
                rw [te.1, te.2] at NE
                simp only [if_true, if_false, Bool.false_eq_true] at NE
                rw [show q + 0 = ql from by omega] at NE
                have d4 : (ql == 9223372036854775808) = false := by rw [beq_eq_false_iff_ne]; exact d3
                have d5 : (qh != 0) = false := by rw [bne_eq_false_iff_eq]; exact d1
                have d6 : ql ≤ 9223372036854775807 := by omega
                clear d1 d3
                have E1 := Lib.hid NE.1
                have E2 := Lib.hid NE.2
                clear NE te hg
                go_wp2
                go_ret2
                refine ⟨?_, rfl⟩
                rw [E1.out, E2.out]
                rfl
          · have te := sg_err (q + 0) false (by first | (left; omega) | (right; exact ⟨by omega, rfl⟩))
            rw [te.1, te.2] at NE
            have d3 : (qh != 0) = true := by rw [bne_iff_ne]; exact d1
            clear d1
            have E1 := Lib.hid NE.1
            have E2 := Lib.hid NE.2
            clear NE te hg
            go_wp2
            go_ret2
            refine ⟨?_, rfl⟩
            rw [E1.out, E2.out]
            rfl
        · by_cases r0 : r = 0
          · have hg : gr 1 r D false = false := by simp [gr, r0]
            have r0' : (r != 0) = false := by rw [bne_eq_false_iff_eq]; exact r0
            clear r0
            have NE := NEAR.out
            rw [hg] at NE
            have hbi : bi false = 0 := rfl
            rw [hbi] at NE
            by_cases d1 : qh = 0
            · by_cases d2 : 9223372036854775808 < ql
              · have te := sg_err (q + 0) false (by first | (left; omega) | (right; exact ⟨by omega, rfl⟩))
                rw [te.1, te.2] at NE
                have d3 : (qh != 0) = false := by rw [bne_eq_false_iff_eq]; exact d1
                clear d1
                have E1 := Lib.hid NE.1
                have E2 := Lib.hid NE.2
                clear NE te hg
                go_wp2
                go_ret2
                refine ⟨?_, rfl⟩
                rw [E1.out, E2.out]
                rfl
              · by_cases d3 : ql = 9223372036854775808
                · have te := sg_err (q + 0) false (by first | (left; omega) | (right; exact ⟨by omega, rfl⟩))
                  rw [te.1, te.2] at NE
                  have d4 : (ql == 9223372036854775808) = true := by rw [beq_iff_eq]; exact d3
                  have d5 : (qh != 0) = false := by rw [bne_eq_false_iff_eq]; exact d1
                  clear d1 d3
                  have E1 := Lib.hid NE.1
                  have E2 := Lib.hid NE.2
                  clear NE te hg
                  go_wp2
                  go_ret2
                  refine ⟨?_, rfl⟩
                  rw [E1.out, E2.out]
                  rfl
                · have te := sg_ok (q + 0) false (by omega) (by first | (left; omega) | (right; intro h; cases h))
                  rw [te.1, te.2] at NE
                  simp only [if_true, if_false, Bool.false_eq_true] at NE
                  rw [show q + 0 = ql from by omega] at NE
                  have d4 : (ql == 9223372036854775808) = false := by rw [beq_eq_false_iff_ne]; exact d3
                  have d5 : (qh != 0) = false := by rw [bne_eq_false_iff_eq]; exact d1
                  have d6 : ql ≤ 9223372036854775807 := by omega
                  clear d1 d3
                  have E1 := Lib.hid NE.1
                  have E2 := Lib.hid NE.2
                  clear NE te hg
                  go_wp2
                  go_ret2
                  refine ⟨?_, rfl⟩
                  rw [E1.out, E2.out]
                  rfl
            · have te := sg_err (q + 0) false (by first | (left; omega) | (right; exact ⟨by omega, rfl⟩))
              rw [te.1, te.2] at NE
              have d3 : (qh != 0) = true := by rw [bne_iff_ne]; exact d1
              clear d1
              have E1 := Lib.hid NE.1
              have E2 := Lib.hid NE.2
              clear NE te hg
              go_wp2
              go_ret2
              refine ⟨?_, rfl⟩
              rw [E1.out, E2.out]
              rfl
          · have hg : gr 1 r D false = true := by simp [gr, r0]
            have r0' : (r != 0) = true := by rw [bne_iff_ne]; exact r0
            clear r0
            have NE := NEAR.out
            rw [hg] at NE
            have hbi : bi true = 1 := rfl
            rw [hbi] at NE
            by_cases f1 : ql = 18446744073709551615
            · have te := sg_err (q + 1) false (by first | (left; omega) | (right; exact ⟨by omega, rfl⟩))
              rw [te.1, te.2] at NE
              have f2 : IntKind.u64.wrap (ql + 1) = 0 := by rw [f1]; decide +kernel
              have f3 : (qh + 1 != 0) = true := by rw [bne_iff_ne]; omega
              clear f1
              have E1 := Lib.hid NE.1
              have E2 := Lib.hid NE.2
              clear NE te hg
              go_wp2
              go_ret2
              refine ⟨?_, rfl⟩
              rw [E1.out, E2.out]
              rfl
            · have f2 : (ql + 1 == 0) = false := by rw [beq_eq_false_iff_ne]; omega
              have f3 : ql + 1 ≤ 18446744073709551615 := by omega
              clear f1
              by_cases d1 : qh = 0
              · by_cases d2 : 9223372036854775808 < ql + 1
                · have te := sg_err (q + 1) false (by first | (left; omega) | (right; exact ⟨by omega, rfl⟩))
                  rw [te.1, te.2] at NE
                  have d3 : (qh != 0) = false := by rw [bne_eq_false_iff_eq]; exact d1
                  clear d1
                  have E1 := Lib.hid NE.1
                  have E2 := Lib.hid NE.2
                  clear NE te hg
                  go_wp2
                  go_ret2
                  refine ⟨?_, rfl⟩
                  rw [E1.out, E2.out]
                  rfl
                · by_cases d3 : ql + 1 = 9223372036854775808
                  · have te := sg_err (q + 1) false (by first | (left; omega) | (right; exact ⟨by omega, rfl⟩))
                    rw [te.1, te.2] at NE
                    have d4 : (ql + 1 == 9223372036854775808) = true := by rw [beq_iff_eq]; exact d3
                    have d5 : (qh != 0) = false := by rw [bne_eq_false_iff_eq]; exact d1
                    clear d1 d3
                    have E1 := Lib.hid NE.1
                    have E2 := Lib.hid NE.2
                    clear NE te hg
                    go_wp2
                    go_ret2
                    refine ⟨?_, rfl⟩
                    rw [E1.out, E2.out]
                    rfl
                  · have te := sg_ok (q + 1) false (by omega) (by first | (left; omega) | (right; intro h; cases h))
                    rw [te.1, te.2] at NE
                    simp only [if_true, if_false, Bool.false_eq_true] at NE
                    rw [show q + 1 = ql + 1 from by omega] at NE
                    have d4 : (ql + 1 == 9223372036854775808) = false := by rw [beq_eq_false_iff_ne]; exact d3
                    have d5 : (qh != 0) = false := by rw [bne_eq_false_iff_eq]; exact d1
                    have d6 : ql + 1 ≤ 9223372036854775807 := by omega
                    clear d1 d3
                    have E1 := Lib.hid NE.1
                    have E2 := Lib.hid NE.2
                    clear NE te hg
                    go_wp2
                    go_ret2
                    refine ⟨?_, rfl⟩
                    rw [E1.out, E2.out]
                    rfl
              · have te := sg_err (q + 1) false (by first | (left; omega) | (right; exact ⟨by omega, rfl⟩))
                rw [te.1, te.2] at NE
                have d3 : (qh != 0) = true := by rw [bne_iff_ne]; exact d1
                clear d1
                have E1 := Lib.hid NE.1
                have E2 := Lib.hid NE.2
                clear NE te hg
                go_wp2
                go_ret2
                refine ⟨?_, rfl⟩
                rw [E1.out, E2.out]
                rfl
        · by_cases r1 : D - r < r
          · have hg : gr 2 r D false = true := by unfold gr; rw [if_neg (by omega), if_neg (by omega), if_neg (by omega)]; simp; omega
            have NE := NEAR.out
            rw [hg] at NE
            have hbi : bi true = 1 := rfl
            rw [hbi] at NE
            by_cases f1 : ql = 18446744073709551615
            · have te := sg_err (q + 1) false (by first | (left; omega) | (right; exact ⟨by omega, rfl⟩))
              rw [te.1, te.2] at NE
              have f2 : IntKind.u64.wrap (ql + 1) = 0 := by rw [f1]; decide +kernel
              have f3 : (qh + 1 != 0) = true := by rw [bne_iff_ne]; omega
              clear f1
              have E1 := Lib.hid NE.1
              have E2 := Lib.hid NE.2
              clear NE te hg
              go_wp2
              go_ret2
              refine ⟨?_, rfl⟩
              rw [E1.out, E2.out]
              rfl
            · have f2 : (ql + 1 == 0) = false := by rw [beq_eq_false_iff_ne]; omega
              have f3 : ql + 1 ≤ 18446744073709551615 := by omega
              clear f1
              by_cases d1 : qh = 0
              · by_cases d2 : 9223372036854775808 < ql + 1
                · have te := sg_err (q + 1) false (by first | (left; omega) | (right; exact ⟨by omega, rfl⟩))
                  rw [te.1, te.2] at NE
                  have d3 : (qh != 0) = false := by rw [bne_eq_false_iff_eq]; exact d1
                  clear d1
                  have E1 := Lib.hid NE.1
                  have E2 := Lib.hid NE.2
                  clear NE te hg
                  go_wp2
                  go_ret2
                  refine ⟨?_, rfl⟩
                  rw [E1.out, E2.out]
                  rfl
                · by_cases d3 : ql + 1 = 9223372036854775808
                  · have te := sg_err (q + 1) false (by first | (left; omega) | (right; exact ⟨by omega, rfl⟩))
                    rw [te.1, te.2] at NE
                    have d4 : (ql + 1 == 9223372036854775808) = true := by rw [beq_iff_eq]; exact d3
                    have d5 : (qh != 0) = false := by rw [bne_eq_false_iff_eq]; exact d1
                    clear d1 d3
                    have E1 := Lib.hid NE.1
                    have E2 := Lib.hid NE.2
                    clear NE te hg
                    go_wp2
                    go_ret2
                    refine ⟨?_, rfl⟩
                    rw [E1.out, E2.out]
                    rfl
                  · have te := sg_ok (q + 1) false (by omega) (by first | (left; omega) | (right; intro h; cases h))
                    rw [te.1, te.2] at NE
                    simp only [if_true, if_false, Bool.false_eq_true] at NE
                    rw [show q + 1 = ql + 1 from by omega] at NE
                    have d4 : (ql + 1 == 9223372036854775808) = false := by rw [beq_eq_false_iff_ne]; exact d3
                    have d5 : (qh != 0) = false := by rw [bne_eq_false_iff_eq]; exact d1
                    have d6 : ql + 1 ≤ 9223372036854775807 := by omega
                    clear d1 d3
                    have E1 := Lib.hid NE.1
                    have E2 := Lib.hid NE.2
                    clear NE te hg
                    go_wp2
                    go_ret2
                    refine ⟨?_, rfl⟩
                    rw [E1.out, E2.out]
                    rfl
              · have te := sg_err (q + 1) false (by first | (left; omega) | (right; exact ⟨by omega, rfl⟩))
                rw [te.1, te.2] at NE
                have d3 : (qh != 0) = true := by rw [bne_iff_ne]; exact d1
                clear d1
                have E1 := Lib.hid NE.1
                have E2 := Lib.hid NE.2
                clear NE te hg
                go_wp2
                go_ret2
                refine ⟨?_, rfl⟩
                rw [E1.out, E2.out]
                rfl
          · by_cases r2 : r = D - r
            · have hg : gr 2 r D false = true := by unfold gr; rw [if_neg (by omega), if_neg (by omega), if_neg (by omega)]; simp; omega
              have r2' : (r == D - r) = true := by rw [beq_iff_eq]; exact r2
              clear r2
              have NE := NEAR.out
              rw [hg] at NE
              have hbi : bi true = 1 := rfl
              rw [hbi] at NE
              by_cases f1 : ql = 18446744073709551615
              · have te := sg_err (q + 1) false (by first | (left; omega) | (right; exact ⟨by omega, rfl⟩))
                rw [te.1, te.2] at NE
                have f2 : IntKind.u64.wrap (ql + 1) = 0 := by rw [f1]; decide +kernel
                have f3 : (qh + 1 != 0) = true := by rw [bne_iff_ne]; omega
                clear f1
                have E1 := Lib.hid NE.1
                have E2 := Lib.hid NE.2
                clear NE te hg
                go_wp2
                go_ret2
                refine ⟨?_, rfl⟩
                rw [E1.out, E2.out]
                rfl
              · have f2 : (ql + 1 == 0) = false := by rw [beq_eq_false_iff_ne]; omega
                have f3 : ql + 1 ≤ 18446744073709551615 := by omega
                clear f1
                by_cases d1 : qh = 0
                · by_cases d2 : 9223372036854775808 < ql + 1
                  · have te := sg_err (q + 1) false (by first | (left; omega) | (right; exact ⟨by omega, rfl⟩))
                    rw [te.1, te.2] at NE
                    have d3 : (qh != 0) = false := by rw [bne_eq_false_iff_eq]; exact d1
                    clear d1
                    have E1 := Lib.hid NE.1
                    have E2 := Lib.hid NE.2
                    clear NE te hg
                    go_wp2
                    go_ret2
                    refine ⟨?_, rfl⟩
                    rw [E1.out, E2.out]
                    rfl
                  · by_cases d3 : ql + 1 = 9223372036854775808
                    · have te := sg_err (q + 1) false (by first | (left; omega) | (right; exact ⟨by omega, rfl⟩))
                      rw [te.1, te.2] at NE
                      have d4 : (ql + 1 == 9223372036854775808) = true := by rw [beq_iff_eq]; exact d3
                      have d5 : (qh != 0) = false := by rw [bne_eq_false_iff_eq]; exact d1
                      clear d1 d3
                      have E1 := Lib.hid NE.1
                      have E2 := Lib.hid NE.2
                      clear NE te hg
                      go_wp2
                      go_ret2
                      refine ⟨?_, rfl⟩
                      rw [E1.out, E2.out]
                      rfl
                    · have te := sg_ok (q + 1) false (by omega) (by first | (left; omega) | (right; intro h; cases h))
                      rw [te.1, te.2] at NE
                      simp only [if_true, if_false, Bool.false_eq_true] at NE
                      rw [show q + 1 = ql + 1 from by omega] at NE
                      have d4 : (ql + 1 == 9223372036854775808) = false := by rw [beq_eq_false_iff_ne]; exact d3
                      have d5 : (qh != 0) = false := by rw [bne_eq_false_iff_eq]; exact d1
                      have d6 : ql + 1 ≤ 9223372036854775807 := by omega
                      clear d1 d3
                      have E1 := Lib.hid NE.1
                      have E2 := Lib.hid NE.2
                      clear NE te hg
                      go_wp2
                      go_ret2
                      refine ⟨?_, rfl⟩
                      rw [E1.out, E2.out]
                      rfl
                · have te := sg_err (q + 1) false (by first | (left; omega) | (right; exact ⟨by omega, rfl⟩))
                  rw [te.1, te.2] at NE
                  have d3 : (qh != 0) = true := by rw [bne_iff_ne]; exact d1
                  clear d1
                  have E1 := Lib.hid NE.1
                  have E2 := Lib.hid NE.2
                  clear NE te hg
                  go_wp2
                  go_ret2
                  refine ⟨?_, rfl⟩
                  rw [E1.out, E2.out]
                  rfl
            · have hg : gr 2 r D false = false := gr2_false r D false r1 r2
              have r2' : (r == D - r) = false := by rw [beq_eq_false_iff_ne]; exact r2
              clear r2
              have NE := NEAR.out
              rw [hg] at NE
              have hbi : bi false = 0 := rfl
              rw [hbi] at NE
              by_cases d1 : qh = 0
              · by_cases d2 : 9223372036854775808 < ql
                · have te := sg_err (q + 0) false (by first | (left; omega) | (right; exact ⟨by omega, rfl⟩))
                  rw [te.1, te.2] at NE
                  have d3 : (qh != 0) = false := by rw [bne_eq_false_iff_eq]; exact d1
                  clear d1
                  have E1 := Lib.hid NE.1
                  have E2 := Lib.hid NE.2
                  clear NE te hg
                  go_wp2
                  go_ret2
                  refine ⟨?_, rfl⟩
                  rw [E1.out, E2.out]
                  rfl
                · by_cases d3 : ql = 9223372036854775808
                  · have te := sg_err (q + 0) false (by first | (left; omega) | (right; exact ⟨by omega, rfl⟩))
                    rw [te.1, te.2] at NE
                    have d4 : (ql == 9223372036854775808) = true := by rw [beq_iff_eq]; exact d3
                    have d5 : (qh != 0) = false := by rw [bne_eq_false_iff_eq]; exact d1
                    clear d1 d3
                    have E1 := Lib.hid NE.1
                    have E2 := Lib.hid NE.2
                    clear NE te hg
                    go_wp2
                    go_ret2
                    refine ⟨?_, rfl⟩
                    rw [E1.out, E2.out]
                    rfl
                  · have te := sg_ok (q + 0) false (by omega) (by first | (left; omega) | (right; intro h; cases h))
                    rw [te.1, te.2] at NE
                    simp only [if_true, if_false, Bool.false_eq_true] at NE
                    rw [show q + 0 = ql from by omega] at NE
                    have d4 : (ql == 9223372036854775808) = false := by rw [beq_eq_false_iff_ne]; exact d3
                    have d5 : (qh != 0) = false := by rw [bne_eq_false_iff_eq]; exact d1
                    have d6 : ql ≤ 9223372036854775807 := by omega
                    clear d1 d3
                    have E1 := Lib.hid NE.1
                    have E2 := Lib.hid NE.2
                    clear NE te hg
                    go_wp2
                    go_ret2
                    refine ⟨?_, rfl⟩
                    rw [E1.out, E2.out]
                    rfl
              · have te := sg_err (q + 0) false (by first | (left; omega) | (right; exact ⟨by omega, rfl⟩))
                rw [te.1, te.2] at NE
                have d3 : (qh != 0) = true := by rw [bne_iff_ne]; exact d1
                clear d1
                have E1 := Lib.hid NE.1
                have E2 := Lib.hid NE.2
                clear NE te hg
                go_wp2
                go_ret2
                refine ⟨?_, rfl⟩
                rw [E1.out, E2.out]
                rfl
      · rcases hw with rfl | rfl | rfl
        · by_cases r0 : r = 0
          · have hg : gr 0 r D true = false := by simp [gr, r0]
            have r0' : (r != 0) = false := by rw [bne_eq_false_iff_eq]; exact r0
            clear r0
            have NE := NEAR.out
            rw [hg] at NE
            have hbi : bi false = 0 := rfl
            rw [hbi] at NE
            by_cases d1 : qh = 0
            · by_cases d2 : 9223372036854775808 < ql
              · have te := sg_err (q + 0) true (by first | (left; omega) | (right; exact ⟨by omega, rfl⟩))
                rw [te.1, te.2] at NE
                have d3 : (qh != 0) = false := by rw [bne_eq_false_iff_eq]; exact d1
                clear d1
                have E1 := Lib.hid NE.1
                have E2 := Lib.hid NE.2
                clear NE te hg
                go_wp2
                go_ret2
                refine ⟨?_, rfl⟩
                rw [E1.out, E2.out]
                rfl
              · by_cases d3 : ql = 9223372036854775808
                · have te := sg_ok (q + 0) true (by omega) (by first | (left; omega) | (right; intro h; cases h))
                  rw [te.1, te.2] at NE
                  simp only [if_true, if_false, Bool.false_eq_true] at NE
                  rw [show q + 0 = ql from by omega] at NE
                  have d4 : (ql == 9223372036854775808) = true := by rw [beq_iff_eq]; exact d3
                  have d5 : (qh != 0) = false := by rw [bne_eq_false_iff_eq]; exact d1
                  clear d1 d3
                  have E1 := Lib.hid NE.1
                  have E2 := Lib.hid NE.2
                  clear NE te hg
                  go_wp2
                  go_ret2
                  refine ⟨?_, rfl⟩
                  rw [E1.out, E2.out]
                  first | rfl | (rw [← neg_walk (ql) (by omega) (by omega)]; rfl)
                · have te := sg_ok (q + 0) true (by omega) (by first | (left; omega) | (right; intro h; cases h))
                  rw [te.1, te.2] at NE
                  simp only [if_true, if_false, Bool.false_eq_true] at NE
                  rw [show q + 0 = ql from by omega] at NE
                  have d4 : (ql == 9223372036854775808) = false := by rw [beq_eq_false_iff_ne]; exact d3
                  have d5 : (qh != 0) = false := by rw [bne_eq_false_iff_eq]; exact d1
                  have d6 : ql ≤ 9223372036854775807 := by omega
                  clear d1 d3
                  have E1 := Lib.hid NE.1
                  have E2 := Lib.hid NE.2
                  clear NE te hg
                  go_wp2
                  go_ret2
                  refine ⟨?_, rfl⟩
                  rw [E1.out, E2.out]
                  first | rfl | (rw [← neg_walk (ql) (by omega) (by omega)]; rfl)
            · have te := sg_err (q + 0) true (by first | (left; omega) | (right; exact ⟨by omega, rfl⟩))
              rw [te.1, te.2] at NE
              have d3 : (qh != 0) = true := by rw [bne_iff_ne]; exact d1
              clear d1
              have E1 := Lib.hid NE.1
              have E2 := Lib.hid NE.2
              clear NE te hg
              go_wp2
              go_ret2
              refine ⟨?_, rfl⟩
              rw [E1.out, E2.out]
              rfl
          · have hg : gr 0 r D true = true := by simp [gr, r0]
            have r0' : (r != 0) = true := by rw [bne_iff_ne]; exact r0
            clear r0
            have NE := NEAR.out
            rw [hg] at NE
            have hbi : bi true = 1 := rfl
            rw [hbi] at NE
            by_cases f1 : ql = 18446744073709551615
            · have te := sg_err (q + 1) true (by first | (left; omega) | (right; exact ⟨by omega, rfl⟩))
              rw [te.1, te.2] at NE
              have f2 : IntKind.u64.wrap (ql + 1) = 0 := by rw [f1]; decide +kernel
              have f3 : (qh + 1 != 0) = true := by rw [bne_iff_ne]; omega
              clear f1
              have E1 := Lib.hid NE.1
              have E2 := Lib.hid NE.2
              clear NE te hg
              go_wp2
              go_ret2
              refine ⟨?_, rfl⟩
              rw [E1.out, E2.out]
              rfl
            · have f2 : (ql + 1 == 0) = false := by rw [beq_eq_false_iff_ne]; omega
              have f3 : ql + 1 ≤ 18446744073709551615 := by omega
              clear f1
              by_cases d1 : qh = 0
              · by_cases d2 : 9223372036854775808 < ql + 1
                · have te := sg_err (q + 1) true (by first | (left; omega) | (right; exact ⟨by omega, rfl⟩))
                  rw [te.1, te.2] at NE
                  have d3 : (qh != 0) = false := by rw [bne_eq_false_iff_eq]; exact d1
                  clear d1
                  have E1 := Lib.hid NE.1
                  have E2 := Lib.hid NE.2
                  clear NE te hg
                  go_wp2
                  go_ret2
                  refine ⟨?_, rfl⟩
                  rw [E1.out, E2.out]
                  rfl
                · by_cases d3 : ql + 1 = 9223372036854775808
                  · have te := sg_ok (q + 1) true (by omega) (by first | (left; omega) | (right; intro h; cases h))
                    rw [te.1, te.2] at NE
                    simp only [if_true, if_false, Bool.false_eq_true] at NE
                    rw [show q + 1 = ql + 1 from by omega] at NE
                    have d4 : (ql + 1 == 9223372036854775808) = true := by rw [beq_iff_eq]; exact d3
                    have d5 : (qh != 0) = false := by rw [bne_eq_false_iff_eq]; exact d1
                    clear d1 d3
                    have E1 := Lib.hid NE.1
                    have E2 := Lib.hid NE.2
                    clear NE te hg
                    go_wp2
                    go_ret2
                    refine ⟨?_, rfl⟩
                    rw [E1.out, E2.out]
                    first | rfl | (rw [← neg_walk (ql + 1) (by omega) (by omega)]; rfl)
                  · have te := sg_ok (q + 1) true (by omega) (by first | (left; omega) | (right; intro h; cases h))
                    rw [te.1, te.2] at NE
                    simp only [if_true, if_false, Bool.false_eq_true] at NE
                    rw [show q + 1 = ql + 1 from by omega] at NE
                    have d4 : (ql + 1 == 9223372036854775808) = false := by rw [beq_eq_false_iff_ne]; exact d3
                    have d5 : (qh != 0) = false := by rw [bne_eq_false_iff_eq]; exact d1
                    have d6 : ql + 1 ≤ 9223372036854775807 := by omega
                    clear d1 d3
                    have E1 := Lib.hid NE.1
                    have E2 := Lib.hid NE.2
                    clear NE te hg
                    go_wp2
                    go_ret2
                    refine ⟨?_, rfl⟩
                    rw [E1.out, E2.out]
                    first | rfl | (rw [← neg_walk (ql + 1) (by omega) (by omega)]; rfl)
              · have te := sg_err (q + 1) true (by first | (left; omega) | (right; exact ⟨by omega, rfl⟩))
                rw [te.1, te.2] at NE
                have d3 : (qh != 0) = true := by rw [bne_iff_ne]; exact d1
                clear d1
                have E1 := Lib.hid NE.1
                have E2 := Lib.hid NE.2
                clear NE te hg
                go_wp2
                go_ret2
                refine ⟨?_, rfl⟩
                rw [E1.out, E2.out]
                rfl
        · have hg : gr 1 r D true = false := by simp [gr]
          have NE := NEAR.out
          rw [hg] at NE
          have hbi : bi false = 0 := rfl
          rw [hbi] at NE
          by_cases d1 : qh = 0
          · by_cases d2 : 9223372036854775808 < ql
            · have te := sg_err (q + 0) true (by first | (left; omega) | (right; exact ⟨by omega, rfl⟩))
              rw [te.1, te.2] at NE
              have d3 : (qh != 0) = false := by rw [bne_eq_false_iff_eq]; exact d1
              clear d1
              have E1 := Lib.hid NE.1
              have E2 := Lib.hid NE.2
              clear NE te hg
              go_wp2
              go_ret2
              refine ⟨?_, rfl⟩
              rw [E1.out, E2.out]
              rfl
            · by_cases d3 : ql = 9223372036854775808
              · have te := sg_ok (q + 0) true (by omega) (by first | (left; omega) | (right; intro h; cases h))
                rw [te.1, te.2] at NE
                simp only [if_true, if_false, Bool.false_eq_true] at NE
                rw [show q + 0 = ql from by omega] at NE
                have d4 : (ql == 9223372036854775808) = true := by rw [beq_iff_eq]; exact d3
                have d5 : (qh != 0) = false := by rw [bne_eq_false_iff_eq]; exact d1
                clear d1 d3
                have E1 := Lib.hid NE.1
                have E2 := Lib.hid NE.2
                clear NE te hg
                go_wp2
                go_ret2
                refine ⟨?_, rfl⟩
                rw [E1.out, E2.out]
                first | rfl | (rw [← neg_walk (ql) (by omega) (by omega)]; rfl)
              · have te := sg_ok (q + 0) true (by omega) (by first | (left; omega) | (right; intro h; cases h))
                rw [te.1, te.2] at NE
                simp only [if_true, if_false, Bool.false_eq_true] at NE
                rw [show q + 0 = ql from by omega] at NE
                have d4 : (ql == 9223372036854775808) = false := by rw [beq_eq_false_iff_ne]; exact d3
                have d5 : (qh != 0) = false := by rw [bne_eq_false_iff_eq]; exact d1
                have d6 : ql ≤ 9223372036854775807 := by omega
                clear d1 d3
                have E1 := Lib.hid NE.1
                have E2 := Lib.hid NE.2
                clear NE te hg
                go_wp2
                go_ret2
                refine ⟨?_, rfl⟩
                rw [E1.out, E2.out]
                first | rfl | (rw [← neg_walk (ql) (by omega) (by omega)]; rfl)
          · have te := sg_err (q + 0) true (by first | (left; omega) | (right; exact ⟨by omega, rfl⟩))
            rw [te.1, te.2] at NE
            have d3 : (qh != 0) = true := by rw [bne_iff_ne]; exact d1
            clear d1
            have E1 := Lib.hid NE.1
            have E2 := Lib.hid NE.2
            clear NE te hg
            go_wp2
            go_ret2
            refine ⟨?_, rfl⟩
            rw [E1.out, E2.out]
            rfl
        · by_cases r1 : D - r < r
          · have hg : gr 2 r D true = true := by unfold gr; rw [if_neg (by omega), if_neg (by omega), if_neg (by omega)]; simp; omega
            have NE := NEAR.out
            rw [hg] at NE
            have hbi : bi true = 1 := rfl
            rw [hbi] at NE
            by_cases f1 : ql = 18446744073709551615
            · have te := sg_err (q + 1) true (by first | (left; omega) | (right; exact ⟨by omega, rfl⟩))
              rw [te.1, te.2] at NE
              have f2 : IntKind.u64.wrap (ql + 1) = 0 := by rw [f1]; decide +kernel
              have f3 : (qh + 1 != 0) = true := by rw [bne_iff_ne]; omega
              clear f1
              have E1 := Lib.hid NE.1
              have E2 := Lib.hid NE.2
              clear NE te hg
              go_wp2
              go_ret2
              refine ⟨?_, rfl⟩
              rw [E1.out, E2.out]
              rfl
            · have f2 : (ql + 1 == 0) = false := by rw [beq_eq_false_iff_ne]; omega
              have f3 : ql + 1 ≤ 18446744073709551615 := by omega
              clear f1
              by_cases d1 : qh = 0
              · by_cases d2 : 9223372036854775808 < ql + 1
                · have te := sg_err (q + 1) true (by first | (left; omega) | (right; exact ⟨by omega, rfl⟩))
                  rw [te.1, te.2] at NE
                  have d3 : (qh != 0) = false := by rw [bne_eq_false_iff_eq]; exact d1
                  clear d1
                  have E1 := Lib.hid NE.1
                  have E2 := Lib.hid NE.2
                  clear NE te hg
                  go_wp2
                  go_ret2
                  refine ⟨?_, rfl⟩
                  rw [E1.out, E2.out]
                  rfl
                · by_cases d3 : ql + 1 = 9223372036854775808
                  · have te := sg_ok (q + 1) true (by omega) (by first | (left; omega) | (right; intro h; cases h))
                    rw [te.1, te.2] at NE
                    simp only [if_true, if_false, Bool.false_eq_true] at NE
                    rw [show q + 1 = ql + 1 from by omega] at NE
                    have d4 : (ql + 1 == 9223372036854775808) = true := by rw [beq_iff_eq]; exact d3
                    have d5 : (qh != 0) = false := by rw [bne_eq_false_iff_eq]; exact d1
                    clear d1 d3
                    have E1 := Lib.hid NE.1
                    have E2 := Lib.hid NE.2
                    clear NE te hg
                    go_wp2
                    go_ret2
                    refine ⟨?_, rfl⟩
                    rw [E1.out, E2.out]
                    first | rfl | (rw [← neg_walk (ql + 1) (by omega) (by omega)]; rfl)
                  · have te := sg_ok (q + 1) true (by omega) (by first | (left; omega) | (right; intro h; cases h))
                    rw [te.1, te.2] at NE
                    simp only [if_true, if_false, Bool.false_eq_true] at NE
                    rw [show q + 1 = ql + 1 from by omega] at NE
                    have d4 : (ql + 1 == 9223372036854775808) = false := by rw [beq_eq_false_iff_ne]; exact d3
                    have d5 : (qh != 0) = false := by rw [bne_eq_false_iff_eq]; exact d1
                    have d6 : ql + 1 ≤ 9223372036854775807 := by omega
                    clear d1 d3
                    have E1 := Lib.hid NE.1
                    have E2 := Lib.hid NE.2
                    clear NE te hg
                    go_wp2
                    go_ret2
                    refine ⟨?_, rfl⟩
                    rw [E1.out, E2.out]
                    first | rfl | (rw [← neg_walk (ql + 1) (by omega) (by omega)]; rfl)
              · have te := sg_err (q + 1) true (by first | (left; omega) | (right; exact ⟨by omega, rfl⟩))
                rw [te.1, te.2] at NE
                have d3 : (qh != 0) = true := by rw [bne_iff_ne]; exact d1
                clear d1
                have E1 := Lib.hid NE.1
                have E2 := Lib.hid NE.2
                clear NE te hg
                go_wp2
                go_ret2
                refine ⟨?_, rfl⟩
                rw [E1.out, E2.out]
                rfl
          · by_cases r2 : r = D - r
            · have hg : gr 2 r D true = false := by unfold gr; rw [if_neg (by omega), if_neg (by omega), if_neg (by omega)]; simp; omega
              have r2' : (r == D - r) = true := by rw [beq_iff_eq]; exact r2
              clear r2
              have NE := NEAR.out
              rw [hg] at NE
              have hbi : bi false = 0 := rfl
              rw [hbi] at NE
              by_cases d1 : qh = 0
              · by_cases d2 : 9223372036854775808 < ql
                · have te := sg_err (q + 0) true (by first | (left; omega) | (right; exact ⟨by omega, rfl⟩))
                  rw [te.1, te.2] at NE
                  have d3 : (qh != 0) = false := by rw [bne_eq_false_iff_eq]; exact d1
                  clear d1
                  have E1 := Lib.hid NE.1
                  have E2 := Lib.hid NE.2
                  clear NE te hg
                  go_wp2
                  go_ret2
                  refine ⟨?_, rfl⟩
                  rw [E1.out, E2.out]
                  rfl
                · by_cases d3 : ql = 9223372036854775808
                  · have te := sg_ok (q + 0) true (by omega) (by first | (left; omega) | (right; intro h; cases h))
                    rw [te.1, te.2] at NE
                    simp only [if_true, if_false, Bool.false_eq_true] at NE
                    rw [show q + 0 = ql from by omega] at NE
                    have d4 : (ql == 9223372036854775808) = true := by rw [beq_iff_eq]; exact d3
                    have d5 : (qh != 0) = false := by rw [bne_eq_false_iff_eq]; exact d1
                    clear d1 d3
                    have E1 := Lib.hid NE.1
                    have E2 := Lib.hid NE.2
                    clear NE te hg
                    go_wp2
                    go_ret2
                    refine ⟨?_, rfl⟩
                    rw [E1.out, E2.out]
                    first | rfl | (rw [← neg_walk (ql) (by omega) (by omega)]; rfl)
                  · have te := sg_ok (q + 0) true (by omega) (by first | (left; omega) | (right; intro h; cases h))
                    rw [te.1, te.2] at NE
                    simp only [if_true, if_false, Bool.false_eq_true] at NE
                    rw [show q + 0 = ql from by omega] at NE
                    have d4 : (ql == 9223372036854775808) = false := by rw [beq_eq_false_iff_ne]; exact d3
                    have d5 : (qh != 0) = false := by rw [bne_eq_false_iff_eq]; exact d1
                    have d6 : ql ≤ 9223372036854775807 := by omega
                    clear d1 d3
                    have E1 := Lib.hid NE.1
                    have E2 := Lib.hid NE.2
                    clear NE te hg
                    go_wp2
                    go_ret2
                    refine ⟨?_, rfl⟩
                    rw [E1.out, E2.out]
                    first | rfl | (rw [← neg_walk (ql) (by omega) (by omega)]; rfl)
              · have te := sg_err (q + 0) true (by first | (left; omega) | (right; exact ⟨by omega, rfl⟩))
                rw [te.1, te.2] at NE
                have d3 : (qh != 0) = true := by rw [bne_iff_ne]; exact d1
                clear d1
                have E1 := Lib.hid NE.1
                have E2 := Lib.hid NE.2
                clear NE te hg
                go_wp2
                go_ret2
                refine ⟨?_, rfl⟩
                rw [E1.out, E2.out]
                rfl
            · have hg : gr 2 r D true = false := gr2_false r D true r1 r2
              have r2' : (r == D - r) = false := by rw [beq_eq_false_iff_ne]; exact r2
              clear r2
              have NE := NEAR.out
              rw [hg] at NE
              have hbi : bi false = 0 := rfl
              rw [hbi] at NE
              by_cases d1 : qh = 0
              · by_cases d2 : 9223372036854775808 < ql
                · have te := sg_err (q + 0) true (by first | (left; omega) | (right; exact ⟨by omega, rfl⟩))
                  rw [te.1, te.2] at NE
                  have d3 : (qh != 0) = false := by rw [bne_eq_false_iff_eq]; exact d1
                  clear d1
                  have E1 := Lib.hid NE.1
                  have E2 := Lib.hid NE.2
                  clear NE te hg
                  go_wp2
                  go_ret2
                  refine ⟨?_, rfl⟩
                  rw [E1.out, E2.out]
                  rfl
                · by_cases d3 : ql = 9223372036854775808
                  · have te := sg_ok (q + 0) true (by omega) (by first | (left; omega) | (right; intro h; cases h))
                    rw [te.1, te.2] at NE
                    simp only [if_true, if_false, Bool.false_eq_true] at NE
                    rw [show q + 0 = ql from by omega] at NE
                    have d4 : (ql == 9223372036854775808) = true := by rw [beq_iff_eq]; exact d3
                    have d5 : (qh != 0) = false := by rw [bne_eq_false_iff_eq]; exact d1
                    clear d1 d3
                    have E1 := Lib.hid NE.1
                    have E2 := Lib.hid NE.2
                    clear NE te hg
                    go_wp2
                    go_ret2
                    refine ⟨?_, rfl⟩
                    rw [E1.out, E2.out]
                    first | rfl | (rw [← neg_walk (ql) (by omega) (by omega)]; rfl)
                  · have te := sg_ok (q + 0) true (by omega) (by first | (left; omega) | (right; intro h; cases h))
                    rw [te.1, te.2] at NE
                    simp only [if_true, if_false, Bool.false_eq_true] at NE
                    rw [show q + 0 = ql from by omega] at NE
                    have d4 : (ql == 9223372036854775808) = false := by rw [beq_eq_false_iff_ne]; exact d3
                    have d5 : (qh != 0) = false := by rw [bne_eq_false_iff_eq]; exact d1
                    have d6 : ql ≤ 9223372036854775807 := by omega
                    clear d1 d3
                    have E1 := Lib.hid NE.1
                    have E2 := Lib.hid NE.2
                    clear NE te hg
                    go_wp2
                    go_ret2
                    refine ⟨?_, rfl⟩
                    rw [E1.out, E2.out]
                    first | rfl | (rw [← neg_walk (ql) (by omega) (by omega)]; rfl)
              · have te := sg_err (q + 0) true (by first | (left; omega) | (right; exact ⟨by omega, rfl⟩))
                rw [te.1, te.2] at NE
                have d3 : (qh != 0) = true := by rw [bne_iff_ne]; exact d1
                clear d1
                have E1 := Lib.hid NE.1
                have E2 := Lib.hid NE.2
                clear NE te hg
                go_wp2
                go_ret2
                refine ⟨?_, rfl⟩
                rw [E1.out, E2.out]
                rfl
end Go.Proofs.YtfkgghjinkmpiaaDoor
