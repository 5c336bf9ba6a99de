/-
  Own contracts: package wide: carries, sums, comparisons, magnitudes.
-/
import Derived.Test.YtoegcfdlecbcjaaBits
import Derived.Test.YtoegcfdlecbcjaaWidn
import Derived.Laws.Externs
import Derived.WalkKit
import Derived.ProofKit
import Derived.OpenShut
import Derived.WalkLawsBesides
import Derived.WalkSpells
import Derived.Lib.Hide
import Derived.Deep.DeepCutAuto
import Derived.Deep.CutBlock
import Derived.Deep.QuietTactic
import Derived.BigQuiet
import Derived.Handy
import Derived.StillTailTactics
import Derived.IntWalk
import Derived.LoopN
import Derived.Deep.RegionHeld3
namespace Go.Proofs.Ytoegcfdlecbcjaa
open Go.ChangeShapes Go.WideShapes Go.ChangeAt Go.RowKit
set_option linter.unusedVariables false
set_option linter.unusedSimpArgs false

theorem withF {p G : Prop} (h : p) (g : p → G) : G := g h
theorem retb {b : Bool} (h : b = true) : Ending.returned (.bool b) = .returned (.bool true) := by rw [h]
theorem kcell {W w1 : World} (h : Kept W w1) (b : Nat) (hb : b < W.heap.size) : (∀ o, w1.cell? ⟨b, o, none⟩ = W.cell? ⟨b, o, none⟩) ∧ (∀ o, w1.frozen? ⟨b, o, none⟩ = W.frozen? ⟨b, o, none⟩) :=
  ⟨fun o => h.cell (p := ⟨b, o, none⟩) hb, fun o => h.frozen (p := ⟨b, o, none⟩) hb⟩
theorem kuse {W w1 : World} {b : Nat} {G : Prop} (h : Kept W w1) (hb : b < W.heap.size) (g : (∀ o, w1.cell? ⟨b, o, none⟩ = W.cell? ⟨b, o, none⟩) → (∀ o, w1.frozen? ⟨b, o, none⟩ = W.frozen? ⟨b, o, none⟩) → G) : G := g (kcell h b hb).1 (kcell h b hb).2
theorem kfacts {W w1 : World} (h : Kept W w1) : (∀ b o, b < W.heap.size → w1.cell? ⟨b, o, none⟩ = W.cell? ⟨b, o, none⟩) ∧ (∀ b o, b < W.heap.size → w1.frozen? ⟨b, o, none⟩ = W.frozen? ⟨b, o, none⟩) ∧ W.heap.size ≤ w1.heap.size :=
  ⟨fun b o hb => h.cell (p := ⟨b, o, none⟩) hb, fun b o hb => h.frozen (p := ⟨b, o, none⟩) hb, h.size⟩
theorem agg2 {a b c d : Int} (h1 : a = c) (h2 : b = d) : Ending.returned (.agg #[.int .i64 a, .int .u64 b]) = .returned (.agg #[.int .i64 c, .int .u64 d]) := by rw [h1, h2]
theorem aggm {a b c d : Int} (h1 : a = c) (h2 : b = d) : Ending.returned (.agg #[.int .u64 a, .int .u64 b]) = .returned (.agg #[.int .u64 c, .int .u64 d]) := by rw [h1, h2]
theorem agg2b {a b c d : Int} {x y : Bool} (h1 : a = c) (h2 : b = d) (h3 : x = y) : Ending.returned (.tuple #[.agg #[.int .i64 a, .int .u64 b], .bool x]) = .returned (.tuple #[.agg #[.int .i64 c, .int .u64 d], .bool y]) := by rw [h1, h2, h3]
theorem add64_r (x y c s d : Int) (x0 : 0 ≤ x) (x1 : x ≤ 18446744073709551615) (y0 : 0 ≤ y) (y1 : y ≤ 18446744073709551615) (hc : c = 0 ∨ c = 1) (hs : (x + y + c) % 18446744073709551616 = s) (hd : (x + y + c) / 18446744073709551616 = d) (w : World) : (callFunc 51 #[.int .u64 x, .int .u64 y, .int .u64 c]).run Try.prog w = .ok (.value (.tuple #[.int .u64 s, .int .u64 d])) w := by
  rw [run_callFunc_extern (fn := Try.f51) (by kernel_rfl) (by kernel_rfl) (by kernel_rfl) (by kernel_rfl) (e := add64Entry) (by kernel_rfl), run_add64 x y c x0 y0 (by omega) (by omega), hs, hd]
  rfl
def sub64E : Array Value → Sem Value := fun args => do
  let (x, y, b) ← Extern.MathBitsCarry.three "Sub64" args
  pure (Extern.MathBitsCarry.pair ((x + Extern.MathBitsCarry.m64 - y - b) % Extern.MathBitsCarry.m64) (if x < y + b then 1 else 0))
theorem run_sub64E {P : Program} (x y b : Nat) (hb : b ≤ 1) (w : World) :
    (sub64E #[.int .u64 x, .int .u64 y, .int .u64 b]).run P w = .ok (.tuple #[.int .u64 (((x + 18446744073709551616 - y - b) % 18446744073709551616 : Nat) : Int), .int .u64 ((if x < y + b then 1 else 0 : Nat) : Int)]) w := by
  have : b = 0 ∨ b = 1 := by omega
  rcases this with rfl | rfl <;> rfl
theorem sub64_r (x y c s d : Int) (x0 : 0 ≤ x) (x1 : x ≤ 18446744073709551615) (y0 : 0 ≤ y) (y1 : y ≤ 18446744073709551615) (hc : c = 0 ∨ c = 1) (hs : (x - y - c) % 18446744073709551616 = s) (hd : -((x - y - c) / 18446744073709551616) = d) (w : World) : (callFunc 73 #[.int .u64 x, .int .u64 y, .int .u64 c]).run Try.prog w = .ok (.value (.tuple #[.int .u64 s, .int .u64 d])) w := by
  obtain ⟨x, rfl⟩ := Int.eq_ofNat_of_zero_le x0
  obtain ⟨y, rfl⟩ := Int.eq_ofNat_of_zero_le y0
  obtain ⟨c, rfl⟩ := Int.eq_ofNat_of_zero_le (show 0 ≤ c by omega)
  rw [run_callFunc_extern (fn := Try.f73) (by kernel_rfl) (by kernel_rfl) (by kernel_rfl) (by kernel_rfl) (e := sub64E) (by kernel_rfl), run_sub64E x y c (by omega)]
  have e1 : (((x + 18446744073709551616 - y - c) % 18446744073709551616 : Nat) : Int) = s := by omega
  have e2 : ((if x < y + c then 1 else 0 : Nat) : Int) = d := by split <;> omega
  rw [e1, e2]
  rfl
set_option maxHeartbeats 2000000 in
set_option maxRecDepth 100000 in
theorem less_yes (u v : Int) (h : u < v) (w : World) : Calls Try.prog 68 #[.agg #[.int .u64 (wh (u)), .int .u64 (wl (u))], .agg #[.int .u64 (wh (v)), .int .u64 (wl (v))]] w fun e w' => e = .returned (.bool true) ∧ Kept w w' := by
  obtain ⟨eu, a0, a1⟩ := wv u
  obtain ⟨ev, b0, b1⟩ := wv v
  generalize wh u = A at *; generalize wl u = a at *; generalize wh v = B at *; generalize wl v = b at *
  by_cases c : A < B
  · clear eu ev h
    go_enter Try.func68, Try.ntmps68
    go_wp2_with fail
    go_ret
    exact ⟨rfl, (by repeat (first | with_reducible exact Kept.refl _ | with_reducible assumption | with_reducible refine Kept.setCell ?_ (by first | (simp; done) | (simp; omega) | omega) _ | with_reducible refine Kept.alloc ?_ _ | with_reducible refine Kept.drewN ?_ _ | with_reducible refine Kept.drew ?_ | with_reducible refine Kept.trans ?_ (by with_reducible assumption) | with_reducible refine Kept.dr ?_ (by with_reducible assumption)))⟩
  · have c2 : a < b := by omega
    obtain rfl : A = B := by omega
    clear eu ev h c
    go_enter Try.func68, Try.ntmps68
    go_wp2_with fail
    go_ret
    exact ⟨rfl, (by repeat (first | with_reducible exact Kept.refl _ | with_reducible assumption | with_reducible refine Kept.setCell ?_ (by first | (simp; done) | (simp; omega) | omega) _ | with_reducible refine Kept.alloc ?_ _ | with_reducible refine Kept.drewN ?_ _ | with_reducible refine Kept.drew ?_ | with_reducible refine Kept.trans ?_ (by with_reducible assumption) | with_reducible refine Kept.dr ?_ (by with_reducible assumption)))⟩
set_option maxHeartbeats 2000000 in
set_option maxRecDepth 100000 in
theorem less_no (u v : Int) (h : v ≤ u) (w : World) : Calls Try.prog 68 #[.agg #[.int .u64 (wh (u)), .int .u64 (wl (u))], .agg #[.int .u64 (wh (v)), .int .u64 (wl (v))]] w fun e w' => e = .returned (.bool false) ∧ Kept w w' := by
  obtain ⟨eu, a0, a1⟩ := wv u
  obtain ⟨ev, b0, b1⟩ := wv v
  generalize wh u = A at *; generalize wl u = a at *; generalize wh v = B at *; generalize wl v = b at *
  by_cases c : B < A
  · have n0 : ¬ A < B := by omega
    have n1 : (A == B) = false := by simpa using (show ¬ A = B by omega)
    clear eu ev h
    go_enter Try.func68, Try.ntmps68
    go_wp2_with fail
    go_ret
    exact ⟨rfl, (by repeat (first | with_reducible exact Kept.refl _ | with_reducible assumption | with_reducible refine Kept.setCell ?_ (by first | (simp; done) | (simp; omega) | omega) _ | with_reducible refine Kept.alloc ?_ _ | with_reducible refine Kept.drewN ?_ _ | with_reducible refine Kept.drew ?_ | with_reducible refine Kept.trans ?_ (by with_reducible assumption) | with_reducible refine Kept.dr ?_ (by with_reducible assumption)))⟩
  · have c2 : ¬ a < b := by omega
    obtain rfl : A = B := by omega
    clear eu ev h c
    go_enter Try.func68, Try.ntmps68
    go_wp2_with fail
    go_ret
    exact ⟨rfl, (by repeat (first | with_reducible exact Kept.refl _ | with_reducible assumption | with_reducible refine Kept.setCell ?_ (by first | (simp; done) | (simp; omega) | omega) _ | with_reducible refine Kept.alloc ?_ _ | with_reducible refine Kept.drewN ?_ _ | with_reducible refine Kept.drew ?_ | with_reducible refine Kept.trans ?_ (by with_reducible assumption) | with_reducible refine Kept.dr ?_ (by with_reducible assumption)))⟩
set_option maxHeartbeats 2000000 in
set_option maxRecDepth 100000 in
theorem minus_c (A a B b r : Int) (A0 : 0 ≤ A) (A1 : A ≤ 18446744073709551615) (a0 : 0 ≤ a) (a1 : a ≤ 18446744073709551615) (B0 : 0 ≤ B) (B1 : B ≤ 18446744073709551615) (b0 : 0 ≤ b) (b1 : b ≤ 18446744073709551615) (hr : (A * 18446744073709551616 + a - (B * 18446744073709551616 + b)) % 340282366920938463463374607431768211456 = r) (w : World) : Calls Try.prog 67 #[.agg #[.int .u64 (A), .int .u64 (a)], .agg #[.int .u64 (B), .int .u64 (b)]] w fun e w' => e = .returned (.agg #[.int .u64 (wh (r)), .int .u64 (wl (r))]) ∧ Kept w w' := by
  obtain ⟨L, hL⟩ : ∃ L, (a - b - 0) % 18446744073709551616 = L := ⟨_, rfl⟩
  obtain ⟨D, hD⟩ : ∃ D, -((a - b - 0) / 18446744073709551616) = D := ⟨_, rfl⟩
  obtain ⟨H, hH⟩ : ∃ H, (A - B - D) % 18446744073709551616 = H := ⟨_, rfl⟩
  obtain ⟨D2, hD2⟩ : ∃ D2, -((A - B - D) / 18446744073709551616) = D2 := ⟨_, rfl⟩
  have d01 : D = 0 ∨ D = 1 := by omega
  have r1 := sub64_r a b 0 L D a0 a1 b0 b1 (Or.inl rfl) hL hD
  have r2 := sub64_r A B D H D2 A0 A1 B0 B1 d01 hH hD2
  have e1 : L = wl r := by unfold wl; omega
  have e2 : H = wh r := by unfold wh; omega
  have E := Lib.hid (And.intro e2 e1)
  clear e1 e2 hr hL hD hH hD2 d01
  go_enter Try.func67, Try.ntmps67
  go_wp2_with fail
  exact bodyPost_ret (v := .agg #[.int .u64 H, .int .u64 L]) (by first | (simp [results, Try.results67, go_sem]; done) | (simp (maxDischargeDepth := 7) [results, Try.results67, go_sem, *]; done)) rfl ⟨aggm E.out.1 E.out.2, (by repeat (first | with_reducible exact Kept.refl _ | with_reducible assumption | with_reducible refine Kept.setCell ?_ (by first | (simp; done) | (simp; omega) | omega) _ | with_reducible refine Kept.alloc ?_ _ | with_reducible refine Kept.drewN ?_ _ | with_reducible refine Kept.drew ?_ | with_reducible refine Kept.trans ?_ (by with_reducible assumption) | with_reducible refine Kept.dr ?_ (by with_reducible assumption)))⟩
set_option maxHeartbeats 2000000 in
set_option maxRecDepth 100000 in
theorem wadd_w (u v : Int) (u0 : -170141183460469231731687303715884105728 ≤ u) (u1 : u < 170141183460469231731687303715884105728) (v0 : -170141183460469231731687303715884105728 ≤ v) (v1 : v < 170141183460469231731687303715884105728) (w : World) : Calls Try.prog 40 #[.agg #[.int .i64 (wh (u)), .int .u64 (wl (u))], .agg #[.int .i64 (wh (v)), .int .u64 (wl (v))]] w fun e w' => e = .returned (.tuple #[.agg #[.int .i64 (wh (wval (u + v))), .int .u64 (wl (wval (u + v)))], .bool (wfit (u + v))]) ∧ Kept w w' := by
  obtain ⟨eu, a0, a1⟩ := wv u
  obtain ⟨ev, b0, b1⟩ := wv v
  have A0 : -9223372036854775808 ≤ wh u := by unfold wh; omega
  have B0 : -9223372036854775808 ≤ wh v := by unfold wh; omega
  have A1 : wh u ≤ 9223372036854775807 := by unfold wh; omega
  have B1 : wh v ≤ 9223372036854775807 := by unfold wh; omega
  generalize wh u = A at *; generalize wl u = a at *; generalize wh v = B at *; generalize wl v = b at *
  obtain ⟨A_, hA⟩ : ∃ A_, IntKind.u64.wrap A = A_ := ⟨_, rfl⟩
  obtain ⟨B_, hB⟩ : ∃ B_, IntKind.u64.wrap B = B_ := ⟨_, rfl⟩
  have kA : A_ = A % 18446744073709551616 := by rw [← hA, IntKind.wrap_u64]
  have kB : B_ = B % 18446744073709551616 := by rw [← hB, IntKind.wrap_u64]
  obtain ⟨L, hL⟩ : ∃ L, (a + b + 0) % 18446744073709551616 = L := ⟨_, rfl⟩
  obtain ⟨D, hD⟩ : ∃ D, (a + b + 0) / 18446744073709551616 = D := ⟨_, rfl⟩
  obtain ⟨H, hH⟩ : ∃ H, (A_ + B_ + D) % 18446744073709551616 = H := ⟨_, rfl⟩
  obtain ⟨D2, hD2⟩ : ∃ D2, (A_ + B_ + D) / 18446744073709551616 = D2 := ⟨_, rfl⟩
  have d01 : D = 0 ∨ D = 1 := by omega
  have r1 := add64_r a b 0 L D a0 a1 b0 b1 (Or.inl rfl) hL hD
  have r2 := add64_r A_ B_ D H D2 (by omega) (by omega) (by omega) (by omega) d01 hH hD2
  obtain ⟨S, hS⟩ : ∃ S, wrap64 H = S := ⟨_, rfl⟩
  have kS : (H < 9223372036854775808 ∧ S = H) ∨ (9223372036854775808 ≤ H ∧ S = H - 18446744073709551616) := by rw [← hS]; unfold wrap64; omega
  have h0 : 0 ≤ H := by omega
  have h1 : H ≤ 18446744073709551615 := by omega
  have e1 : L = wl (u + v) := by unfold wl; omega
  by_cases cA : A < 0 <;> by_cases cB : B < 0
  · by_cases g : S < 0
    · have e2 : S = wh (u + v) := by unfold wh; omega
      have e3 := wfit_yes (u := u + v) (by omega) (by omega)
      rw [e3.2, e3.1]
      have E := Lib.hid (And.intro e2 e1)
      clear e2 e3
      clear e1 hL hD hH hD2 d01 kA kB eu ev kS h0 h1
      go_enter Try.func40, Try.ntmps40
      go_wp2_with fail
      exact bodyPost_ret (v := .tuple #[.agg #[.int .i64 S, .int .u64 L], .bool true]) (by first | (simp [results, Try.results40, go_sem]; done) | (simp (maxDischargeDepth := 7) [results, Try.results40, go_sem, *]; done)) rfl ⟨agg2b E.out.1 E.out.2 rfl, (by repeat (first | with_reducible exact Kept.refl _ | with_reducible assumption | with_reducible refine Kept.setCell ?_ (by first | (simp; done) | (simp; omega) | omega) _ | with_reducible refine Kept.alloc ?_ _ | with_reducible refine Kept.drewN ?_ _ | with_reducible refine Kept.drew ?_ | with_reducible refine Kept.trans ?_ (by with_reducible assumption) | with_reducible refine Kept.dr ?_ (by with_reducible assumption)))⟩
    · have f0 : 0 ≤ S := by omega
      have e3 := wfit_no (u := u + v) (by omega)
      rw [e3.2, e3.1]
      clear e3
      clear e1 hL hD hH hD2 d01 kA kB eu ev kS h0 h1
      go_enter Try.func40, Try.ntmps40
      go_wp2_with fail
      exact bodyPost_ret (v := .tuple #[.agg #[.int .i64 0, .int .u64 0], .bool false]) (by first | (simp [results, Try.results40, go_sem]; done) | (simp (maxDischargeDepth := 7) [results, Try.results40, go_sem, *]; done)) rfl ⟨rfl, (by repeat (first | with_reducible exact Kept.refl _ | with_reducible assumption | with_reducible refine Kept.setCell ?_ (by first | (simp; done) | (simp; omega) | omega) _ | with_reducible refine Kept.alloc ?_ _ | with_reducible refine Kept.drewN ?_ _ | with_reducible refine Kept.drew ?_ | with_reducible refine Kept.trans ?_ (by with_reducible assumption) | with_reducible refine Kept.dr ?_ (by with_reducible assumption)))⟩
  · have e2 : S = wh (u + v) := by unfold wh; omega
    have e3 := wfit_yes (u := u + v) (by omega) (by omega)
    rw [e3.2, e3.1]
    have E := Lib.hid (And.intro e2 e1)
    clear e2 e3
    clear e1 hL hD hH hD2 d01 kA kB eu ev kS h0 h1
    go_enter Try.func40, Try.ntmps40
    go_wp2_with fail
    exact bodyPost_ret (v := .tuple #[.agg #[.int .i64 S, .int .u64 L], .bool true]) (by first | (simp [results, Try.results40, go_sem]; done) | (simp (maxDischargeDepth := 7) [results, Try.results40, go_sem, *]; done)) rfl ⟨agg2b E.out.1 E.out.2 rfl, (by repeat (first | with_reducible exact Kept.refl _ | with_reducible assumption | with_reducible refine Kept.setCell ?_ (by first | (simp; done) | (simp; omega) | omega) _ | with_reducible refine Kept.alloc ?_ _ | with_reducible refine Kept.drewN ?_ _ | with_reducible refine Kept.drew ?_ | with_reducible refine Kept.trans ?_ (by with_reducible assumption) | with_reducible refine Kept.dr ?_ (by with_reducible assumption)))⟩
  · have e2 : S = wh (u + v) := by unfold wh; omega
    have e3 := wfit_yes (u := u + v) (by omega) (by omega)
    rw [e3.2, e3.1]
    have E := Lib.hid (And.intro e2 e1)
    clear e2 e3
    clear e1 hL hD hH hD2 d01 kA kB eu ev kS h0 h1
    go_enter Try.func40, Try.ntmps40
    go_wp2_with fail
    exact bodyPost_ret (v := .tuple #[.agg #[.int .i64 S, .int .u64 L], .bool true]) (by first | (simp [results, Try.results40, go_sem]; done) | (simp (maxDischargeDepth := 7) [results, Try.results40, go_sem, *]; done)) rfl ⟨agg2b E.out.1 E.out.2 rfl, (by repeat (first | with_reducible exact Kept.refl _ | with_reducible assumption | with_reducible refine Kept.setCell ?_ (by first | (simp; done) | (simp; omega) | omega) _ | with_reducible refine Kept.alloc ?_ _ | with_reducible refine Kept.drewN ?_ _ | with_reducible refine Kept.drew ?_ | with_reducible refine Kept.trans ?_ (by with_reducible assumption) | with_reducible refine Kept.dr ?_ (by with_reducible assumption)))⟩
  · by_cases g : S < 0
    · have e3 := wfit_no (u := u + v) (by omega)
      rw [e3.2, e3.1]
      clear e3
      clear e1 hL hD hH hD2 d01 kA kB eu ev kS h0 h1
      go_enter Try.func40, Try.ntmps40
      go_wp2_with fail
      exact bodyPost_ret (v := .tuple #[.agg #[.int .i64 0, .int .u64 0], .bool false]) (by first | (simp [results, Try.results40, go_sem]; done) | (simp (maxDischargeDepth := 7) [results, Try.results40, go_sem, *]; done)) rfl ⟨rfl, (by repeat (first | with_reducible exact Kept.refl _ | with_reducible assumption | with_reducible refine Kept.setCell ?_ (by first | (simp; done) | (simp; omega) | omega) _ | with_reducible refine Kept.alloc ?_ _ | with_reducible refine Kept.drewN ?_ _ | with_reducible refine Kept.drew ?_ | with_reducible refine Kept.trans ?_ (by with_reducible assumption) | with_reducible refine Kept.dr ?_ (by with_reducible assumption)))⟩
    · have f0 : 0 ≤ S := by omega
      have e2 : S = wh (u + v) := by unfold wh; omega
      have e3 := wfit_yes (u := u + v) (by omega) (by omega)
      rw [e3.2, e3.1]
      have E := Lib.hid (And.intro e2 e1)
      clear e2 e3
      clear e1 hL hD hH hD2 d01 kA kB eu ev kS h0 h1
      go_enter Try.func40, Try.ntmps40
      go_wp2_with fail
      exact bodyPost_ret (v := .tuple #[.agg #[.int .i64 S, .int .u64 L], .bool true]) (by first | (simp [results, Try.results40, go_sem]; done) | (simp (maxDischargeDepth := 7) [results, Try.results40, go_sem, *]; done)) rfl ⟨agg2b E.out.1 E.out.2 rfl, (by repeat (first | with_reducible exact Kept.refl _ | with_reducible assumption | with_reducible refine Kept.setCell ?_ (by first | (simp; done) | (simp; omega) | omega) _ | with_reducible refine Kept.alloc ?_ _ | with_reducible refine Kept.drewN ?_ _ | with_reducible refine Kept.drew ?_ | with_reducible refine Kept.trans ?_ (by with_reducible assumption) | with_reducible refine Kept.dr ?_ (by with_reducible assumption)))⟩
set_option maxHeartbeats 2000000 in
set_option maxRecDepth 100000 in
theorem wsub_w (u v : Int) (u0 : -170141183460469231731687303715884105728 ≤ u) (u1 : u < 170141183460469231731687303715884105728) (v0 : -170141183460469231731687303715884105728 ≤ v) (v1 : v < 170141183460469231731687303715884105728) (w : World) : Calls Try.prog 66 #[.agg #[.int .i64 (wh (u)), .int .u64 (wl (u))], .agg #[.int .i64 (wh (v)), .int .u64 (wl (v))]] w fun e w' => e = .returned (.tuple #[.agg #[.int .i64 (wh (wval (u - v))), .int .u64 (wl (wval (u - v)))], .bool (wfit (u - v))]) ∧ Kept w w' := by
  obtain ⟨eu, a0, a1⟩ := wv u
  obtain ⟨ev, b0, b1⟩ := wv v
  have A0 : -9223372036854775808 ≤ wh u := by unfold wh; omega
  have B0 : -9223372036854775808 ≤ wh v := by unfold wh; omega
  have A1 : wh u ≤ 9223372036854775807 := by unfold wh; omega
  have B1 : wh v ≤ 9223372036854775807 := by unfold wh; omega
  generalize wh u = A at *; generalize wl u = a at *; generalize wh v = B at *; generalize wl v = b at *
  obtain ⟨A_, hA⟩ : ∃ A_, IntKind.u64.wrap A = A_ := ⟨_, rfl⟩
  obtain ⟨B_, hB⟩ : ∃ B_, IntKind.u64.wrap B = B_ := ⟨_, rfl⟩
  have kA : A_ = A % 18446744073709551616 := by rw [← hA, IntKind.wrap_u64]
  have kB : B_ = B % 18446744073709551616 := by rw [← hB, IntKind.wrap_u64]
  obtain ⟨L, hL⟩ : ∃ L, (a - b - 0) % 18446744073709551616 = L := ⟨_, rfl⟩
  obtain ⟨D, hD⟩ : ∃ D, -((a - b - 0) / 18446744073709551616) = D := ⟨_, rfl⟩
  obtain ⟨H, hH⟩ : ∃ H, (A_ - B_ - D) % 18446744073709551616 = H := ⟨_, rfl⟩
  obtain ⟨D2, hD2⟩ : ∃ D2, -((A_ - B_ - D) / 18446744073709551616) = D2 := ⟨_, rfl⟩
  have d01 : D = 0 ∨ D = 1 := by omega
  have r1 := sub64_r a b 0 L D a0 a1 b0 b1 (Or.inl rfl) hL hD
  have r2 := sub64_r A_ B_ D H D2 (by omega) (by omega) (by omega) (by omega) d01 hH hD2
  obtain ⟨S, hS⟩ : ∃ S, wrap64 H = S := ⟨_, rfl⟩
  have kS : (H < 9223372036854775808 ∧ S = H) ∨ (9223372036854775808 ≤ H ∧ S = H - 18446744073709551616) := by rw [← hS]; unfold wrap64; omega
  have h0 : 0 ≤ H := by omega
  have h1 : H ≤ 18446744073709551615 := by omega
  have e1 : L = wl (u - v) := by unfold wl; omega
  by_cases cA : A < 0 <;> by_cases cB : B < 0
  · have e2 : S = wh (u - v) := by unfold wh; omega
    have e3 := wfit_yes (u := u - v) (by omega) (by omega)
    rw [e3.2, e3.1]
    have E := Lib.hid (And.intro e2 e1)
    clear e2 e3
    clear e1 hL hD hH hD2 d01 kA kB eu ev kS h0 h1
    go_enter Try.func66, Try.ntmps66
    go_wp2_with fail
    exact bodyPost_ret (v := .tuple #[.agg #[.int .i64 S, .int .u64 L], .bool true]) (by first | (simp [results, Try.results66, go_sem]; done) | (simp (maxDischargeDepth := 7) [results, Try.results66, go_sem, *]; done)) rfl ⟨agg2b E.out.1 E.out.2 rfl, (by repeat (first | with_reducible exact Kept.refl _ | with_reducible assumption | with_reducible refine Kept.setCell ?_ (by first | (simp; done) | (simp; omega) | omega) _ | with_reducible refine Kept.alloc ?_ _ | with_reducible refine Kept.drewN ?_ _ | with_reducible refine Kept.drew ?_ | with_reducible refine Kept.trans ?_ (by with_reducible assumption) | with_reducible refine Kept.dr ?_ (by with_reducible assumption)))⟩
  · by_cases g : S < 0
    · have e2 : S = wh (u - v) := by unfold wh; omega
      have e3 := wfit_yes (u := u - v) (by omega) (by omega)
      rw [e3.2, e3.1]
      have E := Lib.hid (And.intro e2 e1)
      clear e2 e3
      clear e1 hL hD hH hD2 d01 kA kB eu ev kS h0 h1
      go_enter Try.func66, Try.ntmps66
      go_wp2_with fail
      exact bodyPost_ret (v := .tuple #[.agg #[.int .i64 S, .int .u64 L], .bool true]) (by first | (simp [results, Try.results66, go_sem]; done) | (simp (maxDischargeDepth := 7) [results, Try.results66, go_sem, *]; done)) rfl ⟨agg2b E.out.1 E.out.2 rfl, (by repeat (first | with_reducible exact Kept.refl _ | with_reducible assumption | with_reducible refine Kept.setCell ?_ (by first | (simp; done) | (simp; omega) | omega) _ | with_reducible refine Kept.alloc ?_ _ | with_reducible refine Kept.drewN ?_ _ | with_reducible refine Kept.drew ?_ | with_reducible refine Kept.trans ?_ (by with_reducible assumption) | with_reducible refine Kept.dr ?_ (by with_reducible assumption)))⟩
    · have f0 : 0 ≤ S := by omega
      have e3 := wfit_no (u := u - v) (by omega)
      rw [e3.2, e3.1]
      clear e3
      clear e1 hL hD hH hD2 d01 kA kB eu ev kS h0 h1
      go_enter Try.func66, Try.ntmps66
      go_wp2_with fail
      exact bodyPost_ret (v := .tuple #[.agg #[.int .i64 0, .int .u64 0], .bool false]) (by first | (simp [results, Try.results66, go_sem]; done) | (simp (maxDischargeDepth := 7) [results, Try.results66, go_sem, *]; done)) rfl ⟨rfl, (by repeat (first | with_reducible exact Kept.refl _ | with_reducible assumption | with_reducible refine Kept.setCell ?_ (by first | (simp; done) | (simp; omega) | omega) _ | with_reducible refine Kept.alloc ?_ _ | with_reducible refine Kept.drewN ?_ _ | with_reducible refine Kept.drew ?_ | with_reducible refine Kept.trans ?_ (by with_reducible assumption) | with_reducible refine Kept.dr ?_ (by with_reducible assumption)))⟩
  · by_cases g : S < 0
    · have e3 := wfit_no (u := u - v) (by omega)
      rw [e3.2, e3.1]
      clear e3
      clear e1 hL hD hH hD2 d01 kA kB eu ev kS h0 h1
      go_enter Try.func66, Try.ntmps66
      go_wp2_with fail
      exact bodyPost_ret (v := .tuple #[.agg #[.int .i64 0, .int .u64 0], .bool false]) (by first | (simp [results, Try.results66, go_sem]; done) | (simp (maxDischargeDepth := 7) [results, Try.results66, go_sem, *]; done)) rfl ⟨rfl, (by repeat (first | with_reducible exact Kept.refl _ | with_reducible assumption | with_reducible refine Kept.setCell ?_ (by first | (simp; done) | (simp; omega) | omega) _ | with_reducible refine Kept.alloc ?_ _ | with_reducible refine Kept.drewN ?_ _ | with_reducible refine Kept.drew ?_ | with_reducible refine Kept.trans ?_ (by with_reducible assumption) | with_reducible refine Kept.dr ?_ (by with_reducible assumption)))⟩
    · have f0 : 0 ≤ S := by omega
      have e2 : S = wh (u - v) := by unfold wh; omega
      have e3 := wfit_yes (u := u - v) (by omega) (by omega)
      rw [e3.2, e3.1]
      have E := Lib.hid (And.intro e2 e1)
      clear e2 e3
      clear e1 hL hD hH hD2 d01 kA kB eu ev kS h0 h1
      go_enter Try.func66, Try.ntmps66
      go_wp2_with fail
      exact bodyPost_ret (v := .tuple #[.agg #[.int .i64 S, .int .u64 L], .bool true]) (by first | (simp [results, Try.results66, go_sem]; done) | (simp (maxDischargeDepth := 7) [results, Try.results66, go_sem, *]; done)) rfl ⟨agg2b E.out.1 E.out.2 rfl, (by repeat (first | with_reducible exact Kept.refl _ | with_reducible assumption | with_reducible refine Kept.setCell ?_ (by first | (simp; done) | (simp; omega) | omega) _ | with_reducible refine Kept.alloc ?_ _ | with_reducible refine Kept.drewN ?_ _ | with_reducible refine Kept.drew ?_ | with_reducible refine Kept.trans ?_ (by with_reducible assumption) | with_reducible refine Kept.dr ?_ (by with_reducible assumption)))⟩
  · have e2 : S = wh (u - v) := by unfold wh; omega
    have e3 := wfit_yes (u := u - v) (by omega) (by omega)
    rw [e3.2, e3.1]
    have E := Lib.hid (And.intro e2 e1)
    clear e2 e3
    clear e1 hL hD hH hD2 d01 kA kB eu ev kS h0 h1
    go_enter Try.func66, Try.ntmps66
    go_wp2_with fail
    exact bodyPost_ret (v := .tuple #[.agg #[.int .i64 S, .int .u64 L], .bool true]) (by first | (simp [results, Try.results66, go_sem]; done) | (simp (maxDischargeDepth := 7) [results, Try.results66, go_sem, *]; done)) rfl ⟨agg2b E.out.1 E.out.2 rfl, (by repeat (first | with_reducible exact Kept.refl _ | with_reducible assumption | with_reducible refine Kept.setCell ?_ (by first | (simp; done) | (simp; omega) | omega) _ | with_reducible refine Kept.alloc ?_ _ | with_reducible refine Kept.drewN ?_ _ | with_reducible refine Kept.drew ?_ | with_reducible refine Kept.trans ?_ (by with_reducible assumption) | with_reducible refine Kept.dr ?_ (by with_reducible assumption)))⟩
end Go.Proofs.Ytoegcfdlecbcjaa
