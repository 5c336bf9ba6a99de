/-
  Own contracts: package calendar: decimal texts.
-/
import Derived.Test.YtkmpbkojdkoghaaDoorStr
import Derived.Test.YtkmpbkojdkoghaaDoorShelf
import Derived.Laws.Runes
import Derived.Lib.ItoaNum
import Derived.Lib.LaidTab
import Derived.Shelf.Strconv.Itoa2
import Derived.WalkKit
import Derived.ProofKit
import Derived.OpenShut
import Derived.WalkLawsBesides
import Derived.WalkSpells
import Derived.Lib.Hide
import Derived.Deep.DeepCutAuto
import Derived.Deep.CutBlock
import Derived.Deep.QuietTactic
import Derived.BigQuiet
import Derived.Handy
import Derived.StillTailTactics
import Derived.IntWalk
import Derived.LoopN
import Derived.Deep.RegionHeld3
namespace Go.Proofs.YtkmpbkojdkoghaaDoor
open Go.ChangeShapes Go.WideShapes Go.ChangeAt Go.RowKit
set_option linter.unusedVariables false
set_option linter.unusedSimpArgs false
def d2 (n : Int) : ByteArray := ⟨#[dgt (n / 10), dgt n]⟩
def d4 (n : Int) : ByteArray := ⟨#[dgt (n / 10 / 10 / 10), dgt (n / 10 / 10), dgt (n / 10), dgt n]⟩
theorem dec_one (n : Int) (h0 : 0 ≤ n) (h1 : n < 10) : Lib.decDigits n.toNat = [dgt n] := by
  rw [Lib.decDigits, dif_pos (by omega)]
  unfold dgt
  rw [show 48 + n.toNat = (48 + n % 10).toNat by omega]
theorem dec_more (n : Int) (h0 : 10 ≤ n) : Lib.decDigits n.toNat = Lib.decDigits (n / 10).toNat ++ [dgt n] := by
  rw [Lib.decDigits, dif_neg (by omega)]
  unfold dgt
  rw [show n.toNat / 10 = (n / 10).toNat by omega, show 48 + n.toNat % 10 = (48 + n % 10).toNat by omega]
def P10 (w : World) : Prop := Lib.TabIs Tryd.prog w "internal/strconv.uint64pow10" .u64 Lib.pow10Tab
theorem tabis_kept {nm : String} {k : IntKind} {l : List Int} {w w' : World} (h : Lib.TabIs Tryd.prog w nm k l) (kk : Kept w w') : Lib.TabIs Tryd.prog w' nm k l := by
  unfold Lib.TabIs World.var? at *
  cases hg : Tryd.prog.globalNamed nm with
  | none => simp [hg] at h
  | some g =>
    simp only [hg, Option.bind_some] at h ⊢
    have hlt : g < w.heap.size := by
      rcases Nat.lt_or_ge g w.heap.size with h' | h'
      · exact h'
      · rw [Array.getElem?_eq_none h'] at h; simp at h
    rw [kk.block g hlt]
    exact h
theorem kept_grow (w : World) (os : Array Obj) : Kept w (Go.Sort.grow w os) := by
  refine ⟨rfl, rfl, by simp [Go.Sort.grow], fun i hi => ?_⟩
  simp [Go.Sort.grow, Array.getElem?_append, hi]
theorem fmt_small (n : Int) (h0 : 0 ≤ n) (h1 : n < 100) (s : ByteArray) (hs : (⟨(Lib.decDigits n.toNat).toArray⟩ : ByteArray) = s) (w : World) : Calls Tryd.prog 57 #[.int .i64 n, .int .i64 10] w fun e w' => e = .returned (.string s) ∧ w = w' := by
  obtain ⟨u, rfl⟩ : ∃ u : Nat, n = u := ⟨n.toNat, by omega⟩
  have h := Tryd.strconv_FormatInt_10_small u (by omega) w
  rw [show (u : Int).toNat = u by omega] at hs
  rw [← hs]
  refine h.mono ?_
  rintro e w' ⟨rfl, h⟩
  exact ⟨rfl, h.symm⟩
theorem fmt_any (n : Int) (h0 : 0 ≤ n) (h1 : n ≤ 9223372036854775807) (s : ByteArray) (hs : (⟨(Lib.decDigits n.toNat).toArray⟩ : ByteArray) = s) (w : World) (hP : Hid (P10 w)) : Calls Tryd.prog 57 #[.int .i64 n, .int .i64 10] w fun e w' => e = .returned (.string s) ∧ Kept w w' := by
  have h := Tryd.strconv_FormatInt_10 n (by omega) (by omega) w hP.out
  rw [← hs]
  refine h.mono ?_
  rintro e w' ⟨rfl, k, os, rfl⟩
  refine ⟨by unfold Lib.itoa; rw [if_neg (by omega)], ?_⟩
  first | exact (kept_grow _ _).trans' | exact Kept.trans ((Kept.refl w).drewN k) (kept_grow _ _)
theorem enc (x : Int) (h0 : 48 ≤ x) (h1 : x ≤ 57) : Utf8.encode x = ⟨#[UInt8.ofNat x.toNat]⟩ := by
  have h : ∀ k : Fin 10, Utf8.encode (48 + (k.val : Int)) = ⟨#[UInt8.ofNat (48 + (k.val : Int)).toNat]⟩ := by decide +kernel
  have := h ⟨(x - 48).toNat, by omega⟩
  rwa [show (48 : Int) + ((⟨(x - 48).toNat, by omega⟩ : Fin 10).val : Int) = x by show 48 + (((x - 48).toNat : Nat) : Int) = x; omega] at this
set_option maxHeartbeats 1000000 in
set_option maxRecDepth 100000 in
theorem dec2_1 (n : Int) (h0 : 0 ≤ n) (h1 : n < 10) (w : World) : Calls Tryd.prog 48 #[.int .i64 n, .int .i64 2] w fun e w' => e = .returned (.string ⟨#[48, dgt (n)]⟩) ∧ w = w' := by
  have hs : (⟨(Lib.decDigits n.toNat).toArray⟩ : ByteArray) = ⟨#[dgt (n)]⟩ := by
    rw [dec_one (n) (by omega) (by omega)]
    try rfl
  have z1 : ∀ a : UInt8, (⟨#[a]⟩ : ByteArray).size = 1 := fun _ => rfl
  have z2 : ∀ a b : UInt8, (⟨#[a, b]⟩ : ByteArray).size = 2 := fun _ _ => rfl
  have z3 : ∀ a b c : UInt8, (⟨#[a, b, c]⟩ : ByteArray).size = 3 := fun _ _ _ => rfl
  have z4 : ∀ a b c d : UInt8, (⟨#[a, b, c, d]⟩ : ByteArray).size = 4 := fun _ _ _ _ => rfl
  have c1 : ∀ x a : UInt8, (⟨#[x]⟩ ++ ⟨#[a]⟩ : ByteArray) = ⟨#[x, a]⟩ := fun _ _ => rfl
  have c2 : ∀ x a b : UInt8, (⟨#[x]⟩ ++ ⟨#[a, b]⟩ : ByteArray) = ⟨#[x, a, b]⟩ := fun _ _ _ => rfl
  have c3 : ∀ x a b c : UInt8, (⟨#[x]⟩ ++ ⟨#[a, b, c]⟩ : ByteArray) = ⟨#[x, a, b, c]⟩ := fun _ _ _ _ => rfl
  go_enter Tryd.func48, Tryd.ntmps48
  go_wp2_with (first | (go_at_call 57; with_reducible refine (fmt_small n (by omega) (by omega) _ hs _).mono ?_; rintro e w' ⟨rfl, rfl⟩))
  refine wp_loop_rounds 2 ?_
  repeat (rw [rounds_succ]; go_wp2)
  go_ret
  exact ⟨rfl, rfl⟩
set_option maxHeartbeats 1000000 in
set_option maxRecDepth 100000 in
theorem dec2_2 (n : Int) (h0 : 10 ≤ n) (h1 : n < 100) (w : World) : Calls Tryd.prog 48 #[.int .i64 n, .int .i64 2] w fun e w' => e = .returned (.string ⟨#[dgt (n / 10), dgt (n)]⟩) ∧ w = w' := by
  have hs : (⟨(Lib.decDigits n.toNat).toArray⟩ : ByteArray) = ⟨#[dgt (n / 10), dgt (n)]⟩ := by
    rw [dec_more (n) (by omega)]
    rw [dec_one (n / 10) (by omega) (by omega)]
    try rfl
  have z1 : ∀ a : UInt8, (⟨#[a]⟩ : ByteArray).size = 1 := fun _ => rfl
  have z2 : ∀ a b : UInt8, (⟨#[a, b]⟩ : ByteArray).size = 2 := fun _ _ => rfl
  have z3 : ∀ a b c : UInt8, (⟨#[a, b, c]⟩ : ByteArray).size = 3 := fun _ _ _ => rfl
  have z4 : ∀ a b c d : UInt8, (⟨#[a, b, c, d]⟩ : ByteArray).size = 4 := fun _ _ _ _ => rfl
  have c1 : ∀ x a : UInt8, (⟨#[x]⟩ ++ ⟨#[a]⟩ : ByteArray) = ⟨#[x, a]⟩ := fun _ _ => rfl
  have c2 : ∀ x a b : UInt8, (⟨#[x]⟩ ++ ⟨#[a, b]⟩ : ByteArray) = ⟨#[x, a, b]⟩ := fun _ _ _ => rfl
  have c3 : ∀ x a b c : UInt8, (⟨#[x]⟩ ++ ⟨#[a, b, c]⟩ : ByteArray) = ⟨#[x, a, b, c]⟩ := fun _ _ _ _ => rfl
  go_enter Tryd.func48, Tryd.ntmps48
  go_wp2_with (first | (go_at_call 57; with_reducible refine (fmt_small n (by omega) (by omega) _ hs _).mono ?_; rintro e w' ⟨rfl, rfl⟩))
  refine wp_loop_rounds 1 ?_
  repeat (rw [rounds_succ]; go_wp2)
  go_ret
  exact ⟨rfl, rfl⟩
set_option maxHeartbeats 1000000 in
set_option maxRecDepth 100000 in
theorem dec4_1 (n : Int) (h0 : 0 ≤ n) (h1 : n < 10) (w : World) : Calls Tryd.prog 48 #[.int .i64 n, .int .i64 4] w fun e w' => e = .returned (.string ⟨#[48, 48, 48, dgt (n)]⟩) ∧ w = w' := by
  have hs : (⟨(Lib.decDigits n.toNat).toArray⟩ : ByteArray) = ⟨#[dgt (n)]⟩ := by
    rw [dec_one (n) (by omega) (by omega)]
    try rfl
  have z1 : ∀ a : UInt8, (⟨#[a]⟩ : ByteArray).size = 1 := fun _ => rfl
  have z2 : ∀ a b : UInt8, (⟨#[a, b]⟩ : ByteArray).size = 2 := fun _ _ => rfl
  have z3 : ∀ a b c : UInt8, (⟨#[a, b, c]⟩ : ByteArray).size = 3 := fun _ _ _ => rfl
  have z4 : ∀ a b c d : UInt8, (⟨#[a, b, c, d]⟩ : ByteArray).size = 4 := fun _ _ _ _ => rfl
  have c1 : ∀ x a : UInt8, (⟨#[x]⟩ ++ ⟨#[a]⟩ : ByteArray) = ⟨#[x, a]⟩ := fun _ _ => rfl
  have c2 : ∀ x a b : UInt8, (⟨#[x]⟩ ++ ⟨#[a, b]⟩ : ByteArray) = ⟨#[x, a, b]⟩ := fun _ _ _ => rfl
  have c3 : ∀ x a b c : UInt8, (⟨#[x]⟩ ++ ⟨#[a, b, c]⟩ : ByteArray) = ⟨#[x, a, b, c]⟩ := fun _ _ _ _ => rfl
  go_enter Tryd.func48, Tryd.ntmps48
  go_wp2_with (first | (go_at_call 57; with_reducible refine (fmt_small n (by omega) (by omega) _ hs _).mono ?_; rintro e w' ⟨rfl, rfl⟩))
  refine wp_loop_rounds 4 ?_
  repeat (rw [rounds_succ]; go_wp2)
  go_ret
  exact ⟨rfl, rfl⟩
set_option maxHeartbeats 1000000 in
set_option maxRecDepth 100000 in
theorem dec4_2 (n : Int) (h0 : 10 ≤ n) (h1 : n < 100) (w : World) : Calls Tryd.prog 48 #[.int .i64 n, .int .i64 4] w fun e w' => e = .returned (.string ⟨#[48, 48, dgt (n / 10), dgt (n)]⟩) ∧ w = w' := by
  have hs : (⟨(Lib.decDigits n.toNat).toArray⟩ : ByteArray) = ⟨#[dgt (n / 10), dgt (n)]⟩ := by
    rw [dec_more (n) (by omega)]
    rw [dec_one (n / 10) (by omega) (by omega)]
    try rfl
  have z1 : ∀ a : UInt8, (⟨#[a]⟩ : ByteArray).size = 1 := fun _ => rfl
  have z2 : ∀ a b : UInt8, (⟨#[a, b]⟩ : ByteArray).size = 2 := fun _ _ => rfl
  have z3 : ∀ a b c : UInt8, (⟨#[a, b, c]⟩ : ByteArray).size = 3 := fun _ _ _ => rfl
  have z4 : ∀ a b c d : UInt8, (⟨#[a, b, c, d]⟩ : ByteArray).size = 4 := fun _ _ _ _ => rfl
  have c1 : ∀ x a : UInt8, (⟨#[x]⟩ ++ ⟨#[a]⟩ : ByteArray) = ⟨#[x, a]⟩ := fun _ _ => rfl
  have c2 : ∀ x a b : UInt8, (⟨#[x]⟩ ++ ⟨#[a, b]⟩ : ByteArray) = ⟨#[x, a, b]⟩ := fun _ _ _ => rfl
  have c3 : ∀ x a b c : UInt8, (⟨#[x]⟩ ++ ⟨#[a, b, c]⟩ : ByteArray) = ⟨#[x, a, b, c]⟩ := fun _ _ _ _ => rfl
  go_enter Tryd.func48, Tryd.ntmps48
  go_wp2_with (first | (go_at_call 57; with_reducible refine (fmt_small n (by omega) (by omega) _ hs _).mono ?_; rintro e w' ⟨rfl, rfl⟩))
  refine wp_loop_rounds 3 ?_
  repeat (rw [rounds_succ]; go_wp2)
  go_ret
  exact ⟨rfl, rfl⟩
set_option maxHeartbeats 1000000 in
set_option maxRecDepth 100000 in
theorem dec4_3 (n : Int) (h0 : 100 ≤ n) (h1 : n < 1000) (w : World) (hP : Hid (P10 w)) : Calls Tryd.prog 48 #[.int .i64 n, .int .i64 4] w fun e w' => e = .returned (.string ⟨#[48, dgt (n / 10 / 10), dgt (n / 10), dgt (n)]⟩) ∧ Kept w w' := by
  have hs : (⟨(Lib.decDigits n.toNat).toArray⟩ : ByteArray) = ⟨#[dgt (n / 10 / 10), dgt (n / 10), dgt (n)]⟩ := by
    rw [dec_more (n) (by omega)]
    rw [dec_more (n / 10) (by omega)]
    rw [dec_one (n / 10 / 10) (by omega) (by omega)]
    try rfl
  have z1 : ∀ a : UInt8, (⟨#[a]⟩ : ByteArray).size = 1 := fun _ => rfl
  have z2 : ∀ a b : UInt8, (⟨#[a, b]⟩ : ByteArray).size = 2 := fun _ _ => rfl
  have z3 : ∀ a b c : UInt8, (⟨#[a, b, c]⟩ : ByteArray).size = 3 := fun _ _ _ => rfl
  have z4 : ∀ a b c d : UInt8, (⟨#[a, b, c, d]⟩ : ByteArray).size = 4 := fun _ _ _ _ => rfl
  have c1 : ∀ x a : UInt8, (⟨#[x]⟩ ++ ⟨#[a]⟩ : ByteArray) = ⟨#[x, a]⟩ := fun _ _ => rfl
  have c2 : ∀ x a b : UInt8, (⟨#[x]⟩ ++ ⟨#[a, b]⟩ : ByteArray) = ⟨#[x, a, b]⟩ := fun _ _ _ => rfl
  have c3 : ∀ x a b c : UInt8, (⟨#[x]⟩ ++ ⟨#[a, b, c]⟩ : ByteArray) = ⟨#[x, a, b, c]⟩ := fun _ _ _ _ => rfl
  go_enter Tryd.func48, Tryd.ntmps48
  go_wp2_with (first | (go_at_call 57; with_reducible refine (fmt_any n (by omega) (by omega) _ hs _ hP).mono ?_; rintro e w' ⟨rfl, hk⟩))
  refine wp_loop_rounds 2 ?_
  repeat (rw [rounds_succ]; go_wp2)
  go_ret
  exact ⟨rfl, (by repeat (first | with_reducible exact Kept.refl _ | with_reducible assumption | with_reducible refine Kept.drewN ?_ _ | with_reducible refine Kept.drew ?_ | with_reducible refine Kept.trans ?_ (by with_reducible assumption)))⟩
set_option maxHeartbeats 1000000 in
set_option maxRecDepth 100000 in
theorem dec4_4 (n : Int) (h0 : 1000 ≤ n) (h1 : n < 10000) (w : World) (hP : Hid (P10 w)) : Calls Tryd.prog 48 #[.int .i64 n, .int .i64 4] w fun e w' => e = .returned (.string ⟨#[dgt (n / 10 / 10 / 10), dgt (n / 10 / 10), dgt (n / 10), dgt (n)]⟩) ∧ Kept w w' := by
  have hs : (⟨(Lib.decDigits n.toNat).toArray⟩ : ByteArray) = ⟨#[dgt (n / 10 / 10 / 10), dgt (n / 10 / 10), dgt (n / 10), dgt (n)]⟩ := by
    rw [dec_more (n) (by omega)]
    rw [dec_more (n / 10) (by omega)]
    rw [dec_more (n / 10 / 10) (by omega)]
    rw [dec_one (n / 10 / 10 / 10) (by omega) (by omega)]
    try rfl
  have z1 : ∀ a : UInt8, (⟨#[a]⟩ : ByteArray).size = 1 := fun _ => rfl
  have z2 : ∀ a b : UInt8, (⟨#[a, b]⟩ : ByteArray).size = 2 := fun _ _ => rfl
  have z3 : ∀ a b c : UInt8, (⟨#[a, b, c]⟩ : ByteArray).size = 3 := fun _ _ _ => rfl
  have z4 : ∀ a b c d : UInt8, (⟨#[a, b, c, d]⟩ : ByteArray).size = 4 := fun _ _ _ _ => rfl
  have c1 : ∀ x a : UInt8, (⟨#[x]⟩ ++ ⟨#[a]⟩ : ByteArray) = ⟨#[x, a]⟩ := fun _ _ => rfl
  have c2 : ∀ x a b : UInt8, (⟨#[x]⟩ ++ ⟨#[a, b]⟩ : ByteArray) = ⟨#[x, a, b]⟩ := fun _ _ _ => rfl
  have c3 : ∀ x a b c : UInt8, (⟨#[x]⟩ ++ ⟨#[a, b, c]⟩ : ByteArray) = ⟨#[x, a, b, c]⟩ := fun _ _ _ _ => rfl
  go_enter Tryd.func48, Tryd.ntmps48
  go_wp2_with (first | (go_at_call 57; with_reducible refine (fmt_any n (by omega) (by omega) _ hs _ hP).mono ?_; rintro e w' ⟨rfl, hk⟩))
  refine wp_loop_rounds 1 ?_
  repeat (rw [rounds_succ]; go_wp2)
  go_ret
  exact ⟨rfl, (by repeat (first | with_reducible exact Kept.refl _ | with_reducible assumption | with_reducible refine Kept.drewN ?_ _ | with_reducible refine Kept.drew ?_ | with_reducible refine Kept.trans ?_ (by with_reducible assumption)))⟩
theorem dg0 (n : Int) (h0 : 0 ≤ n) (h1 : n < 10) : dgt (n / 10) = 48 := by
  rw [show n / 10 = 0 by omega]; rfl
set_option maxHeartbeats 1000000 in
set_option maxRecDepth 100000 in
theorem dec2 (n : Int) (h0 : 0 ≤ n) (h1 : n < 100) (w : World) : Calls Tryd.prog 48 #[.int .i64 n, .int .i64 2] w fun e w' => e = .returned (.string (d2 n)) ∧ w = w' := by
  by_cases c : n < 10
  · have h := dec2_1 n h0 c w
    unfold d2
    rw [dg0 n h0 c]
    exact h
  · exact dec2_2 n (by omega) h1 w
set_option maxHeartbeats 1000000 in
set_option maxRecDepth 100000 in
theorem dec4 (n : Int) (h0 : 0 ≤ n) (h1 : n < 10000) (w : World) (hP : Hid (P10 w)) : Calls Tryd.prog 48 #[.int .i64 n, .int .i64 4] w fun e w' => e = .returned (.string (d4 n)) ∧ Kept w w' := by
  have hk : ∀ {w' : World}, w = w' → Kept w w' := fun h => h ▸ Kept.refl _
  by_cases c : n < 10
  · have h := dec4_1 n h0 c w
    unfold d4
    rw [show n / 10 / 10 / 10 = 0 by omega, show n / 10 / 10 = 0 by omega, show n / 10 = 0 by omega]
    exact h.mono fun e w' ⟨a, b⟩ => ⟨a, hk b⟩
  by_cases c2 : n < 100
  · have h := dec4_2 n (by omega) c2 w
    unfold d4
    rw [show n / 10 / 10 / 10 = 0 by omega, show n / 10 / 10 = 0 by omega]
    exact h.mono fun e w' ⟨a, b⟩ => ⟨a, hk b⟩
  by_cases c3 : n < 1000
  · have h := dec4_3 n (by omega) c3 w hP
    unfold d4
    rw [show n / 10 / 10 / 10 = 0 by omega]
    exact h
  · exact dec4_4 n (by omega) h1 w hP
set_option maxHeartbeats 1000000 in
set_option maxRecDepth 100000 in
theorem rdig2 (n : Int) (h0 : 0 ≤ n) (h1 : n ≤ 9223372036854775807) (w : World) : Calls Tryd.prog 50 #[.int .i64 n, .int .i64 2] w fun e w' => e = .returned (.string (d2 n)) ∧ w = w' := by
  have w0 : IntKind.i32.wrap (48 + (n) % 10) = 48 + (n) % 10 := by unfold IntKind.wrap; simp [IntKind.bits, IntKind.signed]; omega
  have e0 := enc (48 + (n) % 10) (by omega) (by omega)
  have w1 : IntKind.i32.wrap (48 + (n / 10) % 10) = 48 + (n / 10) % 10 := by unfold IntKind.wrap; simp [IntKind.bits, IntKind.signed]; omega
  have e1 := enc (48 + (n / 10) % 10) (by omega) (by omega)
  have z1 : ∀ a : UInt8, (⟨#[a]⟩ : ByteArray).size = 1 := fun _ => rfl
  have z2 : ∀ a b : UInt8, (⟨#[a, b]⟩ : ByteArray).size = 2 := fun _ _ => rfl
  have z3 : ∀ a b c : UInt8, (⟨#[a, b, c]⟩ : ByteArray).size = 3 := fun _ _ _ => rfl
  have z4 : ∀ a b c d : UInt8, (⟨#[a, b, c, d]⟩ : ByteArray).size = 4 := fun _ _ _ _ => rfl
  have c1 : ∀ x a : UInt8, (⟨#[x]⟩ ++ ⟨#[a]⟩ : ByteArray) = ⟨#[x, a]⟩ := fun _ _ => rfl
  have c2 : ∀ x a b : UInt8, (⟨#[x]⟩ ++ ⟨#[a, b]⟩ : ByteArray) = ⟨#[x, a, b]⟩ := fun _ _ _ => rfl
  have c3 : ∀ x a b c : UInt8, (⟨#[x]⟩ ++ ⟨#[a, b, c]⟩ : ByteArray) = ⟨#[x, a, b, c]⟩ := fun _ _ _ _ => rfl
  have z0 : ByteArray.empty.size = 0 := rfl
  have c0 : ∀ x : UInt8, (⟨#[x]⟩ ++ ByteArray.empty : ByteArray) = ⟨#[x]⟩ := fun _ => rfl
  go_enter Tryd.func50, Tryd.ntmps50
  go_wp2_with fail
  refine wp_loop_rounds 3 ?_
  repeat (rw [rounds_succ]; go_wp2)
  go_ret
  exact ⟨rfl, rfl⟩
set_option maxHeartbeats 1000000 in
set_option maxRecDepth 100000 in
theorem rdig4 (n : Int) (h0 : 0 ≤ n) (h1 : n ≤ 9223372036854775807) (w : World) : Calls Tryd.prog 50 #[.int .i64 n, .int .i64 4] w fun e w' => e = .returned (.string (d4 n)) ∧ w = w' := by
  have w0 : IntKind.i32.wrap (48 + (n) % 10) = 48 + (n) % 10 := by unfold IntKind.wrap; simp [IntKind.bits, IntKind.signed]; omega
  have e0 := enc (48 + (n) % 10) (by omega) (by omega)
  have w1 : IntKind.i32.wrap (48 + (n / 10) % 10) = 48 + (n / 10) % 10 := by unfold IntKind.wrap; simp [IntKind.bits, IntKind.signed]; omega
  have e1 := enc (48 + (n / 10) % 10) (by omega) (by omega)
  have w2 : IntKind.i32.wrap (48 + (n / 10 / 10) % 10) = 48 + (n / 10 / 10) % 10 := by unfold IntKind.wrap; simp [IntKind.bits, IntKind.signed]; omega
  have e2 := enc (48 + (n / 10 / 10) % 10) (by omega) (by omega)
  have w3 : IntKind.i32.wrap (48 + (n / 10 / 10 / 10) % 10) = 48 + (n / 10 / 10 / 10) % 10 := by unfold IntKind.wrap; simp [IntKind.bits, IntKind.signed]; omega
  have e3 := enc (48 + (n / 10 / 10 / 10) % 10) (by omega) (by omega)
  have z1 : ∀ a : UInt8, (⟨#[a]⟩ : ByteArray).size = 1 := fun _ => rfl
  have z2 : ∀ a b : UInt8, (⟨#[a, b]⟩ : ByteArray).size = 2 := fun _ _ => rfl
  have z3 : ∀ a b c : UInt8, (⟨#[a, b, c]⟩ : ByteArray).size = 3 := fun _ _ _ => rfl
  have z4 : ∀ a b c d : UInt8, (⟨#[a, b, c, d]⟩ : ByteArray).size = 4 := fun _ _ _ _ => rfl
  have c1 : ∀ x a : UInt8, (⟨#[x]⟩ ++ ⟨#[a]⟩ : ByteArray) = ⟨#[x, a]⟩ := fun _ _ => rfl
  have c2 : ∀ x a b : UInt8, (⟨#[x]⟩ ++ ⟨#[a, b]⟩ : ByteArray) = ⟨#[x, a, b]⟩ := fun _ _ _ => rfl
  have c3 : ∀ x a b c : UInt8, (⟨#[x]⟩ ++ ⟨#[a, b, c]⟩ : ByteArray) = ⟨#[x, a, b, c]⟩ := fun _ _ _ _ => rfl
  have z0 : ByteArray.empty.size = 0 := rfl
  have c0 : ∀ x : UInt8, (⟨#[x]⟩ ++ ByteArray.empty : ByteArray) = ⟨#[x]⟩ := fun _ => rfl
  go_enter Tryd.func50, Tryd.ntmps50
  go_wp2_with fail
  refine wp_loop_rounds 5 ?_
  repeat (rw [rounds_succ]; go_wp2)
  go_ret
  exact ⟨rfl, rfl⟩
end Go.Proofs.YtkmpbkojdkoghaaDoor
