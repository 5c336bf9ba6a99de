/-
  Own contracts: the document's answers of layer 2: the division bit by bit, quotients.
-/
import Derived.Test.YtoegcfdlecbcjaaWids
import Derived.Test.YtoegcfdlecbcjaaWide
import Derived.WalkKit
import Derived.ProofKit
import Derived.OpenShut
import Derived.WalkLawsBesides
import Derived.WalkSpells
import Derived.Lib.Hide
import Derived.Deep.DeepCutAuto
import Derived.Deep.CutBlock
import Derived.Deep.QuietTactic
import Derived.BigQuiet
import Derived.Handy
import Derived.StillTailTactics
import Derived.IntWalk
import Derived.LoopN
import Derived.Deep.RegionHeld3
namespace Go.Proofs.Ytoegcfdlecbcjaa
open Go.ChangeShapes Go.WideShapes Go.ChangeAt Go.RowKit
set_option linter.unusedVariables false
set_option linter.unusedSimpArgs false

/-- a division of two words by two, bit by bit -/
def InvW (c T : Int) (i : Nat) (H L qh ql rh rl : Int) : Prop :=
  ∃ P : Int, P * 340282366920938463463374607431768211456 + (H * 18446744073709551616 + L) = T * 2 ^ i ∧ P = (qh * 18446744073709551616 + ql) * c + (rh * 18446744073709551616 + rl) ∧ rh * 18446744073709551616 + rl < c ∧ 0 ≤ H ∧ H ≤ 18446744073709551615 ∧ 0 ≤ L ∧ L ≤ 18446744073709551615 ∧ 0 ≤ qh ∧ qh ≤ 18446744073709551615 ∧ 0 ≤ ql ∧ ql ≤ 18446744073709551615 ∧ 0 ≤ rh ∧ rh ≤ 18446744073709551615 ∧ 0 ≤ rl ∧ rl ≤ 18446744073709551615
theorem invW_step (c T : Int) (i : Nat) (hi : i < 128) (H L qh ql rh rl : Int) (hT : 0 ≤ T) (hT' : T < 340282366920938463463374607431768211456) (hc : 0 < c) (hc' : c ≤ 170141183460469231731687303715884105728) (h : InvW c T i H L qh ql rh rl) (H' L' qh' ql' rh' rl' : Int)
    (eH : H' = H * 2 % 18446744073709551616 + L / 9223372036854775808) (eL : L' = L * 2 % 18446744073709551616) (eqh : qh' = qh * 2 % 18446744073709551616 + ql / 9223372036854775808) (eql : ql' = ql * 2 % 18446744073709551616) (erh : rh' = rh * 2 % 18446744073709551616 + rl / 9223372036854775808) (erl : rl' = rl * 2 % 18446744073709551616 + H / 9223372036854775808) :
    0 ≤ H' ∧ H' ≤ 18446744073709551615 ∧ 0 ≤ L' ∧ L' ≤ 18446744073709551615 ∧ 0 ≤ qh' ∧ qh' ≤ 18446744073709551615 ∧ 0 ≤ ql' ∧ ql' ≤ 18446744073709551614 ∧ 0 ≤ rh' ∧ rh' ≤ 18446744073709551615 ∧ 0 ≤ rl' ∧ rl' ≤ 18446744073709551615 ∧ rh' * 18446744073709551616 + rl' < 2 * c ∧
    (rh' * 18446744073709551616 + rl' < c → InvW c T (i + 1) H' L' qh' ql' rh' rl')
    ∧ (c ≤ rh' * 18446744073709551616 + rl' → ∀ a b : Int, 0 ≤ a → a ≤ 18446744073709551615 → 0 ≤ b → b ≤ 18446744073709551615 → a * 18446744073709551616 + b = rh' * 18446744073709551616 + rl' - c → InvW c T (i + 1) H' L' qh' (ql' + 1) a b) := by
  obtain ⟨P, h1, h2, h4, h5, h6, h7, h8, h9, h10, h11, h12, r0, r1, r2, r3⟩ := h
  have hpow : T * 2 ^ (i + 1) = 2 * (T * 2 ^ i) := by rw [Int.pow_succ, ← Int.mul_assoc]; omega
  have hle : (2 : Int) ^ (i + 1) ≤ 340282366920938463463374607431768211456 := pow_mono (i + 1) 128 (by omega)
  have hT2 : T * 2 ^ (i + 1) ≤ T * 340282366920938463463374607431768211456 := Int.mul_le_mul_of_nonneg_left hle hT
  have hPT : 2 * P + H / 9223372036854775808 ≤ T := by rw [hpow] at hT2; omega
  have hQ : 0 ≤ qh * 18446744073709551616 + ql := by omega
  have hQc : 2 * (qh * 18446744073709551616 + ql) ≤ 2 * ((qh * 18446744073709551616 + ql) * c) := by
    have := Int.mul_le_mul_of_nonneg_left (show 1 ≤ c by omega) hQ
    omega
  have hq2 : qh * 2 % 18446744073709551616 = qh * 2 := by omega
  have hr2 : rh * 2 % 18446744073709551616 = rh * 2 := by omega
  have e1 : qh' * 18446744073709551616 + ql' = 2 * (qh * 18446744073709551616 + ql) := by omega
  have e2 : rh' * 18446744073709551616 + rl' = 2 * (rh * 18446744073709551616 + rl) + H / 9223372036854775808 := by omega
  refine ⟨by omega, by omega, by omega, by omega, by omega, by omega, by omega, by omega, by omega, by omega, by omega, by omega, by omega, fun hlt => ⟨2 * P + H / 9223372036854775808, by rw [hpow]; omega, ?_, hlt, by omega, by omega, by omega, by omega, by omega, by omega, by omega, by omega, by omega, by omega, by omega, by omega⟩, fun hge a b a0 a1 b0 b1 hab => ⟨2 * P + H / 9223372036854775808, by rw [hpow]; omega, ?_, by omega, by omega, by omega, by omega, by omega, by omega, by omega, by omega, by omega, a0, a1, b0, b1⟩⟩
  · rw [e1, e2, Int.mul_assoc]; omega
  · have e3 : qh' * 18446744073709551616 + (ql' + 1) = 2 * (qh * 18446744073709551616 + ql) + 1 := by omega
    rw [e3, Int.add_mul, Int.mul_assoc]; omega
theorem invW_end (c T H L qh ql rh rl : Int) (hc : 0 < c) (h : InvW c T 128 H L qh ql rh rl) : T / c = qh * 18446744073709551616 + ql ∧ T % c = rh * 18446744073709551616 + rl := by
  obtain ⟨P, h1, h2, h4, h5, h6, h7, h8, h9, h10, h11, h12, r0, r1, r2, r3⟩ := h
  have e : (2 : Int) ^ 128 = 340282366920938463463374607431768211456 := rfl
  rw [e] at h1
  have hP : P = T := by omega
  subst hP
  have hq : P / c = qh * 18446744073709551616 + ql := by
    rw [h2, Int.add_comm, Int.add_mul_ediv_right _ _ (by omega), Int.ediv_eq_zero_of_lt (by omega) h4]; omega
  refine ⟨hq, ?_⟩
  rw [Int.emod_def, hq, Int.mul_comm]; omega
theorem tup4u {a b c d a' b' c' d' : Int} (h : a = a' ∧ b = b' ∧ c = c' ∧ d = d') : Ending.returned (.tuple #[.int .u64 a, .int .u64 b, .int .u64 c, .int .u64 d]) = .returned (.tuple #[.int .u64 a', .int .u64 b', .int .u64 c', .int .u64 d']) := by rw [h.1, h.2.1, h.2.2.1, h.2.2.2]
set_option maxHeartbeats 2000000 in
set_option maxRecDepth 100000 in
theorem ref_divide2_w (m d : Int) (m0 : 0 ≤ m) (m1 : m < 340282366920938463463374607431768211456) (d0 : 0 < d) (d1 : d ≤ 170141183460469231731687303715884105728) (w : World) : Calls Try.prog 76 #[.int .u64 (wh m), .int .u64 (wl m), .int .u64 (wh d), .int .u64 (wl d)] w fun e w' => e = .returned (.tuple #[.int .u64 (wh (m / d)), .int .u64 (wl (m / d)), .int .u64 (wh (m % d)), .int .u64 (wl (m % d))]) ∧ w = w' := by
  obtain ⟨em, a0, a1⟩ := wv m
  obtain ⟨ed, b0, b1⟩ := wv d
  have A0 : 0 ≤ wh m := (by unfold wh; omega)
  have A1 : wh m ≤ 18446744073709551615 := (by unfold wh; omega)
  have B0 : 0 ≤ wh d := (by unfold wh; omega)
  have B1 : wh d ≤ 18446744073709551615 := (by unfold wh; omega)
  have inv0 : InvW d m 0 (wh m) (wl m) 0 0 0 0 := ⟨0, by rw [Int.pow_zero]; omega, by omega, by omega, A0, A1, a0, a1, by omega, by omega, by omega, by omega, by omega, by omega, by omega, by omega⟩
  have I0 := Lib.hid inv0
  have HED := Lib.hid ed
  clear inv0 ed em
  obtain ⟨A, hA⟩ : ∃ A, wh m = A := ⟨_, rfl⟩
  obtain ⟨a, ha⟩ : ∃ a, wl m = a := ⟨_, rfl⟩
  obtain ⟨B, hB⟩ : ∃ B, wh d = B := ⟨_, rfl⟩
  obtain ⟨b, hb⟩ : ∃ b, wl d = b := ⟨_, rfl⟩
  rw [hA] at A0 A1 I0 ⊢
  rw [ha] at a0 a1 I0 ⊢
  rw [hB] at B0 B1 HED ⊢
  rw [hb] at b0 b1 HED ⊢
  clear hA ha hB hb
  go_enter Try.func76, Try.ntmps76
  go_wp2_with fail
  go_loop [0, 1, 8, 9, 10, 11, 12] (fun x0 x1 s4 s5 s6 s7 i => ∃ H L qh ql rh rl : Int, ∃ k : Nat, k ≤ 128 ∧ x0 = .int .u64 H ∧ x1 = .int .u64 L ∧ s4 = .int .u64 qh ∧ s5 = .int .u64 ql ∧ s6 = .int .u64 rh ∧ s7 = .int .u64 rl ∧ i = .int .i64 (k : Int) ∧ InvW d m k H L qh ql rh rl) (fun _ _ _ _ _ _ i => (128 - intOf i).toNat)
  case atStart => exact ⟨A, a, 0, 0, 0, 0, 0, by omega, rfl, rfl, rfl, rfl, rfl, rfl, rfl, I0.out⟩
  case round =>
    obtain ⟨H, L, qh, ql, rh, rl, k, hk, rfl, rfl, rfl, rfl, rfl, rfl, rfl, hI⟩ := hrel
    by_cases hlt : k < 128
    · obtain ⟨H', hH⟩ : ∃ x, H * 2 % 18446744073709551616 + L / 9223372036854775808 = x := ⟨_, rfl⟩
      obtain ⟨L', hL⟩ : ∃ x, L * 2 % 18446744073709551616 = x := ⟨_, rfl⟩
      obtain ⟨qh', hqh⟩ : ∃ x, qh * 2 % 18446744073709551616 + ql / 9223372036854775808 = x := ⟨_, rfl⟩
      obtain ⟨ql', hql⟩ : ∃ x, ql * 2 % 18446744073709551616 = x := ⟨_, rfl⟩
      obtain ⟨rh', hrh⟩ : ∃ x, rh * 2 % 18446744073709551616 + rl / 9223372036854775808 = x := ⟨_, rfl⟩
      obtain ⟨rl', hrl⟩ : ∃ x, rl * 2 % 18446744073709551616 + H / 9223372036854775808 = x := ⟨_, rfl⟩
      obtain ⟨H0, H1, L0, L1, q0, q1, p0, p1, x0, x1, y0, y1, lt2, sN, sY⟩ := invW_step d m k hlt H L qh ql rh rl m0 m1 d0 d1 hI H' L' qh' ql' rh' rl' hH.symm hL.symm hqh.symm hql.symm hrh.symm hrl.symm
      obtain ⟨P, _, _, _, z1, z2, z3, z4, z5, z6, z7, z8, z9, z10, z11, z12⟩ := hI
      have o1 : bits .or .u64 (IntKind.u64.wrap (rh * 2)) (rl / 9223372036854775808) = rh * 2 % 18446744073709551616 + rl / 9223372036854775808 := by rw [IntKind.wrap_u64]; exact or_bit _ _ (by omega) (by omega) (by omega) (by omega) (by omega)
      have o2 : bits .or .u64 (IntKind.u64.wrap (rl * 2)) (H / 9223372036854775808) = rl * 2 % 18446744073709551616 + H / 9223372036854775808 := by rw [IntKind.wrap_u64]; exact or_bit _ _ (by omega) (by omega) (by omega) (by omega) (by omega)
      have o3 : bits .or .u64 (IntKind.u64.wrap (H * 2)) (L / 9223372036854775808) = H * 2 % 18446744073709551616 + L / 9223372036854775808 := by rw [IntKind.wrap_u64]; exact or_bit _ _ (by omega) (by omega) (by omega) (by omega) (by omega)
      have o4 : IntKind.u64.wrap (L * 2) = L * 2 % 18446744073709551616 := IntKind.wrap_u64 _
      have o5 : bits .or .u64 (IntKind.u64.wrap (qh * 2)) (ql / 9223372036854775808) = qh * 2 % 18446744073709551616 + ql / 9223372036854775808 := by rw [IntKind.wrap_u64]; exact or_bit _ _ (by omega) (by omega) (by omega) (by omega) (by omega)
      have o6 : IntKind.u64.wrap (ql * 2) = ql * 2 % 18446744073709551616 := IntKind.wrap_u64 _
      have o7 : bits .or .u64 ql' 1 = ql' + 1 := or_bit _ _ (by omega) (by omega) (by rw [← hql]; omega) (by omega) (by omega)
      rw [hrh] at o1
      rw [hrl] at o2
      rw [hH] at o3
      rw [hL] at o4
      rw [hqh] at o5
      rw [hql] at o6
      have eD := HED.out
      have SN := Lib.hid sN
      have SY := Lib.hid sY
      clear sN sY hH hL hqh hql hrh hrl z1 z2 z3 z4 z5 z6 z7 z8 z9 z10 z11 z12
      have kk : ∀ n : Nat, True := fun _ => trivial
      clear kk
      by_cases g1 : B < rh'
      · by_cases g2 : rl' < b
        · have u1 : IntKind.u64.wrap (rh' - B) = rh' - B := by rw [IntKind.wrap_u64]; omega
          have u2 : IntKind.u64.wrap (rh' - B - 1) = rh' - B - 1 := by rw [IntKind.wrap_u64]; omega
          have u3 : IntKind.u64.wrap (rl' - b) = rl' - b + 18446744073709551616 := by rw [IntKind.wrap_u64]; omega
          have HI := Lib.hid (SY.out (by omega) (rh' - B - 1) (rl' - b + 18446744073709551616) (by omega) (by omega) (by omega) (by omega) (by omega))
          clear eD lt2
          go_wp2
          go_round
          case rel => exact ⟨_, _, _, _, _, _, k + 1, by omega, rfl, rfl, rfl, rfl, rfl, rfl, by go_num, HI.out⟩
          case measure => simp [intOf]; omega
        · have u1 : IntKind.u64.wrap (rh' - B) = rh' - B := by rw [IntKind.wrap_u64]; omega
          have u3 : IntKind.u64.wrap (rl' - b) = rl' - b := by rw [IntKind.wrap_u64]; omega
          have HI := Lib.hid (SY.out (by omega) (rh' - B) (rl' - b) (by omega) (by omega) (by omega) (by omega) (by omega))
          clear eD lt2
          go_wp2
          go_round
          case rel => exact ⟨_, _, _, _, _, _, k + 1, by omega, rfl, rfl, rfl, rfl, rfl, rfl, by go_num, HI.out⟩
          case measure => simp [intOf]; omega
      · by_cases g6 : rh' = B
        · subst g6
          by_cases g2 : b ≤ rl'
          · have g3 : ¬ rl' < b := by omega
            have u3 : IntKind.u64.wrap (rl' - b) = rl' - b := by rw [IntKind.wrap_u64]; omega
            have HI := Lib.hid (SY.out (by omega) (0) (rl' - b) (by omega) (by omega) (by omega) (by omega) (by omega))
            have u0 : IntKind.u64.wrap (rh' - rh') = 0 := by rw [Int.sub_self]; rfl
            have u0' : IntKind.u64.wrap 0 = 0 := rfl
            clear eD lt2
            go_wp2
            go_round
            case rel => exact ⟨_, _, _, _, _, _, k + 1, by omega, rfl, rfl, rfl, rfl, rfl, rfl, by go_num, HI.out⟩
            case measure => simp [intOf]; omega
          · have g5 : ¬ b ≤ rl' := by omega
            have HI := Lib.hid (SN.out (by omega))
            clear eD lt2
            go_wp2
            go_round
            case rel => exact ⟨_, _, _, _, _, _, k + 1, by omega, rfl, rfl, rfl, rfl, rfl, rfl, by go_num, HI.out⟩
            case measure => simp [intOf]; omega
        · have g4 : (rh' == B) = false := by rw [beq_eq_false_iff_ne]; omega
          have HI := Lib.hid (SN.out (by omega))
          clear eD lt2
          go_wp2
          go_round
          case rel => exact ⟨_, _, _, _, _, _, k + 1, by omega, rfl, rfl, rfl, rfl, rfl, rfl, by go_num, HI.out⟩
          case measure => simp [intOf]; omega
    · obtain rfl : k = 128 := by omega
      have ⟨e1, e2⟩ := invW_end d m H L qh ql rh rl d0 hI
      obtain ⟨P, _, _, _, z1, z2, z3, z4, z5, z6, z7, z8, z9, z10, z11, z12⟩ := hI
      have E : Hid (qh = wh (m / d) ∧ ql = wl (m / d) ∧ rh = wh (m % d) ∧ rl = wl (m % d)) := Lib.hid ⟨by rw [e1, wh_of _ _ z7 z8], by rw [e1, wl_of _ _ z7 z8], by rw [e2, wh_of _ _ z11 z12], by rw [e2, wl_of _ _ z11 z12]⟩
      clear e1 e2
      go_wp2
      exact bodyPost_ret (v := .tuple #[.int .u64 qh, .int .u64 ql, .int .u64 rh, .int .u64 rl]) (by first | (simp [results, Try.results76, go_sem]; done) | (simp (maxDischargeDepth := 7) [results, Try.results76, go_sem, *]; done)) rfl ⟨tup4u E.out, rfl⟩
theorem ref_signed_c (h l : Int) (n : Bool) (h0 : 0 ≤ h) (h1 : h ≤ 18446744073709551615) (l0 : 0 ≤ l) (l1 : l ≤ 18446744073709551615) (T : Int) (hT : sgd n (h * 18446744073709551616 + l) = T) (w : World) : Calls Try.prog 64 #[.bool n, .int .u64 h, .int .u64 l] w fun e w' => e = .returned (.tuple #[.agg #[.int .i64 (wh (wval T)), .int .u64 (wl (wval T))], .bool (wfit T)]) ∧ Kept w w' := by
  subst hT
  have := ref_signed_w (h * 18446744073709551616 + l) (by omega) (by omega) n w
  rw [wh_of h l l0 l1, wl_of h l l0 l1] at this
  exact this
theorem sgd_t (x : Int) : sgd true x = -x := by unfold sgd; rw [if_pos rfl]
theorem sgd_f (x : Int) : sgd false x = x := by unfold sgd; rw [if_neg (by decide)]
theorem gr2_gt (R D : Int) (N : Bool) (h0 : 0 < D) (h : D < 2 * R) : gr 2 R D N = true := by
  unfold gr; rw [if_neg (by omega), if_neg (by decide), if_neg (by decide)]; cases N <;> simp <;> omega
theorem gr2_lt (R D : Int) (N : Bool) (h : 2 * R < D) : gr 2 R D N = false := by
  unfold gr; by_cases c : R = 0
  · rw [if_pos c]
  · rw [if_neg c, if_neg (by decide), if_neg (by decide)]; cases N <;> simp <;> omega
theorem gr2_eq (R D : Int) (N : Bool) (h0 : 0 < D) (h : 2 * R = D) : gr 2 R D N = !N := by
  unfold gr; rw [if_neg (by omega), if_neg (by decide), if_neg (by decide)]; cases N <;> simp <;> omega
end Go.Proofs.Ytoegcfdlecbcjaa
