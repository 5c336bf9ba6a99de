/-
  Own contracts: package wide: carries, sums, comparisons, magnitudes.
-/
import Derived.Test.YtinpmooihjdbgaaBits
import Derived.Test.YtinpmooihjdbgaaWidn
import Derived.Test.YtinpmooihjdbgaaInta
import Derived.Laws.Externs
import Derived.WalkKit
import Derived.ProofKit
import Derived.OpenShut
import Derived.WalkLawsBesides
import Derived.WalkSpells
import Derived.Lib.Hide
import Derived.Deep.DeepCutAuto
import Derived.Deep.CutBlock
import Derived.Deep.QuietTactic
import Derived.BigQuiet
import Derived.Handy
import Derived.StillTailTactics
import Derived.IntWalk
import Derived.LoopN
import Derived.Deep.RegionHeld3
namespace Go.Proofs.Ytinpmooihjdbgaa
open Go.ChangeShapes Go.WideShapes Go.ChangeAt Go.RowKit
set_option linter.unusedVariables false
set_option linter.unusedSimpArgs false

theorem agg2 {a b c d : Int} (h1 : a = c) (h2 : b = d) : Ending.returned (.agg #[.int .i64 a, .int .u64 b]) = .returned (.agg #[.int .i64 c, .int .u64 d]) := by rw [h1, h2]
theorem aggm {a b c d : Int} (h1 : a = c) (h2 : b = d) : Ending.returned (.agg #[.int .u64 a, .int .u64 b]) = .returned (.agg #[.int .u64 c, .int .u64 d]) := by rw [h1, h2]
theorem agg2b {a b c d : Int} {x y : Bool} (h1 : a = c) (h2 : b = d) (h3 : x = y) : Ending.returned (.tuple #[.agg #[.int .i64 a, .int .u64 b], .bool x]) = .returned (.tuple #[.agg #[.int .i64 c, .int .u64 d], .bool y]) := by rw [h1, h2, h3]
def sub64E : Array Value → Sem Value := fun args => do
  let (x, y, b) ← Extern.MathBitsCarry.three "Sub64" args
  pure (Extern.MathBitsCarry.pair ((x + Extern.MathBitsCarry.m64 - y - b) % Extern.MathBitsCarry.m64) (if x < y + b then 1 else 0))
theorem run_sub64E {P : Program} (x y b : Nat) (hb : b ≤ 1) (w : World) :
    (sub64E #[.int .u64 x, .int .u64 y, .int .u64 b]).run P w = .ok (.tuple #[.int .u64 (((x + 18446744073709551616 - y - b) % 18446744073709551616 : Nat) : Int), .int .u64 ((if x < y + b then 1 else 0 : Nat) : Int)]) w := by
  have : b = 0 ∨ b = 1 := by omega
  rcases this with rfl | rfl <;> rfl
theorem sub64_r (x y c s d : Int) (x0 : 0 ≤ x) (x1 : x ≤ 18446744073709551615) (y0 : 0 ≤ y) (y1 : y ≤ 18446744073709551615) (hc : c = 0 ∨ c = 1) (hs : (x - y - c) % 18446744073709551616 = s) (hd : -((x - y - c) / 18446744073709551616) = d) (w : World) : (callFunc 96 #[.int .u64 x, .int .u64 y, .int .u64 c]).run Try.prog w = .ok (.value (.tuple #[.int .u64 s, .int .u64 d])) w := by
  obtain ⟨x, rfl⟩ := Int.eq_ofNat_of_zero_le x0
  obtain ⟨y, rfl⟩ := Int.eq_ofNat_of_zero_le y0
  obtain ⟨c, rfl⟩ := Int.eq_ofNat_of_zero_le (show 0 ≤ c by omega)
  rw [run_callFunc_extern (fn := Try.f96) (by kernel_rfl) (by kernel_rfl) (by kernel_rfl) (by kernel_rfl) (e := sub64E) (by kernel_rfl), run_sub64E x y c (by omega)]
  have e1 : (((x + 18446744073709551616 - y - c) % 18446744073709551616 : Nat) : Int) = s := by omega
  have e2 : ((if x < y + c then 1 else 0 : Nat) : Int) = d := by split <;> omega
  rw [e1, e2]
  rfl
set_option maxHeartbeats 2000000 in
set_option maxRecDepth 100000 in
theorem less_yes (u v : Int) (h : u < v) (w : World) : Calls Try.prog 75 #[.agg #[.int .u64 (wh (u)), .int .u64 (wl (u))], .agg #[.int .u64 (wh (v)), .int .u64 (wl (v))]] w fun e w' => e = .returned (.bool true) ∧ Kept w w' := by
  obtain ⟨eu, a0, a1⟩ := wv u
  obtain ⟨ev, b0, b1⟩ := wv v
  generalize wh u = A at *; generalize wl u = a at *; generalize wh v = B at *; generalize wl v = b at *
  by_cases c : A < B
  · clear eu ev h
    go_enter Try.func75, Try.ntmps75
    go_wp2_with fail
    go_ret
    exact ⟨rfl, (by repeat (first | with_reducible exact Kept.refl _ | with_reducible assumption | with_reducible refine Kept.setCell ?_ (by first | (simp; done) | (simp; omega) | omega) _ | with_reducible refine Kept.alloc ?_ _ | with_reducible refine Kept.drewN ?_ _ | with_reducible refine Kept.drew ?_ | with_reducible refine Kept.trans ?_ (by with_reducible assumption) | with_reducible refine Kept.dr ?_ (by with_reducible assumption)))⟩
  · have c2 : a < b := by omega
    obtain rfl : A = B := by omega
    clear eu ev h c
    go_enter Try.func75, Try.ntmps75
    go_wp2_with fail
    go_ret
    exact ⟨rfl, (by repeat (first | with_reducible exact Kept.refl _ | with_reducible assumption | with_reducible refine Kept.setCell ?_ (by first | (simp; done) | (simp; omega) | omega) _ | with_reducible refine Kept.alloc ?_ _ | with_reducible refine Kept.drewN ?_ _ | with_reducible refine Kept.drew ?_ | with_reducible refine Kept.trans ?_ (by with_reducible assumption) | with_reducible refine Kept.dr ?_ (by with_reducible assumption)))⟩
set_option maxHeartbeats 2000000 in
set_option maxRecDepth 100000 in
theorem less_no (u v : Int) (h : v ≤ u) (w : World) : Calls Try.prog 75 #[.agg #[.int .u64 (wh (u)), .int .u64 (wl (u))], .agg #[.int .u64 (wh (v)), .int .u64 (wl (v))]] w fun e w' => e = .returned (.bool false) ∧ Kept w w' := by
  obtain ⟨eu, a0, a1⟩ := wv u
  obtain ⟨ev, b0, b1⟩ := wv v
  generalize wh u = A at *; generalize wl u = a at *; generalize wh v = B at *; generalize wl v = b at *
  by_cases c : B < A
  · have n0 : ¬ A < B := by omega
    have n1 : (A == B) = false := by simpa using (show ¬ A = B by omega)
    clear eu ev h
    go_enter Try.func75, Try.ntmps75
    go_wp2_with fail
    go_ret
    exact ⟨rfl, (by repeat (first | with_reducible exact Kept.refl _ | with_reducible assumption | with_reducible refine Kept.setCell ?_ (by first | (simp; done) | (simp; omega) | omega) _ | with_reducible refine Kept.alloc ?_ _ | with_reducible refine Kept.drewN ?_ _ | with_reducible refine Kept.drew ?_ | with_reducible refine Kept.trans ?_ (by with_reducible assumption) | with_reducible refine Kept.dr ?_ (by with_reducible assumption)))⟩
  · have c2 : ¬ a < b := by omega
    obtain rfl : A = B := by omega
    clear eu ev h c
    go_enter Try.func75, Try.ntmps75
    go_wp2_with fail
    go_ret
    exact ⟨rfl, (by repeat (first | with_reducible exact Kept.refl _ | with_reducible assumption | with_reducible refine Kept.setCell ?_ (by first | (simp; done) | (simp; omega) | omega) _ | with_reducible refine Kept.alloc ?_ _ | with_reducible refine Kept.drewN ?_ _ | with_reducible refine Kept.drew ?_ | with_reducible refine Kept.trans ?_ (by with_reducible assumption) | with_reducible refine Kept.dr ?_ (by with_reducible assumption)))⟩
set_option maxHeartbeats 2000000 in
set_option maxRecDepth 100000 in
theorem minus_c (A a B b r : Int) (A0 : 0 ≤ A) (A1 : A ≤ 18446744073709551615) (a0 : 0 ≤ a) (a1 : a ≤ 18446744073709551615) (B0 : 0 ≤ B) (B1 : B ≤ 18446744073709551615) (b0 : 0 ≤ b) (b1 : b ≤ 18446744073709551615) (hr : (A * 18446744073709551616 + a - (B * 18446744073709551616 + b)) % 340282366920938463463374607431768211456 = r) (w : World) : Calls Try.prog 86 #[.agg #[.int .u64 (A), .int .u64 (a)], .agg #[.int .u64 (B), .int .u64 (b)]] w fun e w' => e = .returned (.agg #[.int .u64 (wh (r)), .int .u64 (wl (r))]) ∧ Kept w w' := by
  obtain ⟨L, hL⟩ : ∃ L, (a - b - 0) % 18446744073709551616 = L := ⟨_, rfl⟩
  obtain ⟨D, hD⟩ : ∃ D, -((a - b - 0) / 18446744073709551616) = D := ⟨_, rfl⟩
  obtain ⟨H, hH⟩ : ∃ H, (A - B - D) % 18446744073709551616 = H := ⟨_, rfl⟩
  obtain ⟨D2, hD2⟩ : ∃ D2, -((A - B - D) / 18446744073709551616) = D2 := ⟨_, rfl⟩
  have d01 : D = 0 ∨ D = 1 := by omega
  have r1 := sub64_r a b 0 L D a0 a1 b0 b1 (Or.inl rfl) hL hD
  have r2 := sub64_r A B D H D2 A0 A1 B0 B1 d01 hH hD2
  have e1 : L = wl r := by unfold wl; omega
  have e2 : H = wh r := by unfold wh; omega
  have E := Lib.hid (And.intro e2 e1)
  clear e1 e2 hr hL hD hH hD2 d01
  go_enter Try.func86, Try.ntmps86
  go_wp2_with fail
  exact bodyPost_ret (v := .agg #[.int .u64 H, .int .u64 L]) (by first | (simp [results, Try.results86, go_sem]; done) | (simp (maxDischargeDepth := 7) [results, Try.results86, go_sem, *]; done)) rfl ⟨aggm E.out.1 E.out.2, (by repeat (first | with_reducible exact Kept.refl _ | with_reducible assumption | with_reducible refine Kept.setCell ?_ (by first | (simp; done) | (simp; omega) | omega) _ | with_reducible refine Kept.alloc ?_ _ | with_reducible refine Kept.drewN ?_ _ | with_reducible refine Kept.drew ?_ | with_reducible refine Kept.trans ?_ (by with_reducible assumption) | with_reducible refine Kept.dr ?_ (by with_reducible assumption)))⟩
end Go.Proofs.Ytinpmooihjdbgaa
