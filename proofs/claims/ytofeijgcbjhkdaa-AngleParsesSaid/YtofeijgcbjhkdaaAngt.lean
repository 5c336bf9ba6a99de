/-
  Own contracts: package angle: decimal texts.
-/
import Derived.Test.YtofeijgcbjhkdaaRows
import Derived.Test.YtofeijgcbjhkdaaBase
import Derived.Test.YtofeijgcbjhkdaaNum
import Derived.Test.YtofeijgcbjhkdaaAnga
import Derived.Laws.BytesArg
import Derived.Laws.BytesString
import Derived.Laws.MakeOwn
import Derived.WalkKit
import Derived.ProofKit
import Derived.OpenShut
import Derived.WalkLawsBesides
import Derived.WalkSpells
import Derived.Lib.Hide
import Derived.Deep.DeepCutAuto
import Derived.Deep.CutBlock
import Derived.Deep.QuietTactic
import Derived.BigQuiet
import Derived.Handy
import Derived.StillTailTactics
import Derived.IntWalk
import Derived.LoopN
import Derived.Deep.RegionHeld3
namespace Go.Proofs.Ytofeijgcbjhkdaa
open Go.ChangeShapes Go.WideShapes Go.ChangeAt Go.RowKit
set_option linter.unusedVariables false
set_option linter.unusedSimpArgs false

def dgt (n : Int) : UInt8 := UInt8.ofNat (48 + n % 10).toNat
theorem made1 (z : Value) (n : Nat) : madeCells #[z] n = Array.replicate n z := by
  apply Array.ext
  · simp [madeCells]
  · intro i h1 h2
    simp [madeCells, Nat.mod_one]
theorem infou8 : (Try.prog.info? 5).map (fun i => (i.zero, i.size, i.bytes)) = some (some (.int .u8 0), 1, 1) := by kernel_rfl
theorem mk_bytes (n : Nat) (hn : n ≤ 1000) (W : World) : (Instr.makeSlice 52 (.int .i64 n) (.int .i64 n)).run Try.prog W = .ok (.slice (some ⟨W.heap.size, 0, none⟩) n n) (W.alloc (.cells (madeCells #[.int .u8 0] n) 5)) := by
  obtain ⟨i, hi, h1, h2, h3⟩ := info_parts infou8
  have := run_make (P := Try.prog) W 52 5 i (.int .u8 0) Try.underlying52 hi h1 .i64 .i64 n n (by omega) (by omega) (by rw [h3]; omega) (by omega)
  rw [h2] at this
  simpa [Value.cells] using this
def d2 (n : Int) : ByteArray := ⟨#[dgt (n / 10), dgt n]⟩
def d3 (n : Int) : ByteArray := ⟨#[dgt (n / 10 / 10), dgt (n / 10), dgt n]⟩
def d4 (n : Int) : ByteArray := ⟨#[dgt (n / 10 / 10 / 10), dgt (n / 10 / 10), dgt (n / 10), dgt n]⟩
def sx2 (a : Int) : ByteArray := d2 (a / 360000) ++ d2 (a / 6000 % 60) ++ d2 (a / 100 % 60) ++ d2 (a % 100)
def sx3 (a : Int) : ByteArray := d3 (a / 360000) ++ d2 (a / 6000 % 60) ++ d2 (a / 100 % 60) ++ d2 (a % 100)
theorem sx2_size (a : Int) : (sx2 a).size = 8 := rfl
theorem sx3_size (a : Int) : (sx3 a).size = 9 := rfl
set_option maxHeartbeats 1000000 in
theorem dec2 (n : Int) (h0 : 0 ≤ n) (h1 : n ≤ 9223372036854775807) (w : World) : Calls Try.prog 50 #[.int .i64 n, .int .i64 2] w fun e w' => e = .returned (.string (d2 n)) ∧ Kept w w' := by
  have mk : ∀ W : World, (Instr.makeSlice 52 (.int .i64 2) (.int .i64 2)).run Try.prog W = .ok (.slice (some ⟨W.heap.size, 0, none⟩) 2 2) (W.alloc (.cells #[.int .u8 0, .int .u8 0] 5)) := fun W => by
    have h := mk_bytes 2 (by decide) W
    rw [show madeCells #[.int .u8 0] 2 = #[.int .u8 0, .int .u8 0] from by rw [made1]; rfl] at h
    exact h
  have cv : ∀ (W : World) (x0 x1 : Int), W.cell? ⟨w.heap.size, 0, none⟩ = some (.int .u8 x0) → W.cell? ⟨w.heap.size, 1, none⟩ = some (.int .u8 x1) → (convert 52 9 (.slice (some ⟨w.heap.size, 0, none⟩) 2 2)).run Try.prog W = .ok (.string ⟨#[UInt8.ofNat x0.toNat, UInt8.ofNat x1.toNat]⟩) W := by
    intro W x0 x1 c0 c1
    have := run_convert_bytes_arg (P := Try.prog) W 52 5 Try.underlying52 Try.underlying5 w.heap.size 0 2 2 [x0, x1] rfl (fun i hi => by
      match i, hi with
      | 0, _ => simpa using c0 | 1, _ => simpa using c1) 9 Try.underlying9
    simpa [strOfNums] using this
  go_enter Try.func50, Try.ntmps50
  go_wp2_with fail
  refine wp_loop_rounds 3 ?_
  repeat (rw [rounds_succ]; go_wp2)
  go_ret
  exact ⟨rfl, (by repeat (first | with_reducible exact Kept.refl _ | with_reducible assumption | with_reducible refine Kept.setCell ?_ (by first | (simp; done) | (simp; omega) | omega) _ | with_reducible refine Kept.alloc ?_ _ | with_reducible refine Kept.drewN ?_ _ | with_reducible refine Kept.drew ?_ | with_reducible refine Kept.trans ?_ (by with_reducible assumption) | with_reducible refine Kept.dr ?_ (by with_reducible assumption)))⟩
set_option maxHeartbeats 1000000 in
theorem dec3 (n : Int) (h0 : 0 ≤ n) (h1 : n ≤ 9223372036854775807) (w : World) : Calls Try.prog 50 #[.int .i64 n, .int .i64 3] w fun e w' => e = .returned (.string (d3 n)) ∧ Kept w w' := by
  have mk : ∀ W : World, (Instr.makeSlice 52 (.int .i64 3) (.int .i64 3)).run Try.prog W = .ok (.slice (some ⟨W.heap.size, 0, none⟩) 3 3) (W.alloc (.cells #[.int .u8 0, .int .u8 0, .int .u8 0] 5)) := fun W => by
    have h := mk_bytes 3 (by decide) W
    rw [show madeCells #[.int .u8 0] 3 = #[.int .u8 0, .int .u8 0, .int .u8 0] from by rw [made1]; rfl] at h
    exact h
  have cv : ∀ (W : World) (x0 x1 x2 : Int), W.cell? ⟨w.heap.size, 0, none⟩ = some (.int .u8 x0) → W.cell? ⟨w.heap.size, 1, none⟩ = some (.int .u8 x1) → W.cell? ⟨w.heap.size, 2, none⟩ = some (.int .u8 x2) → (convert 52 9 (.slice (some ⟨w.heap.size, 0, none⟩) 3 3)).run Try.prog W = .ok (.string ⟨#[UInt8.ofNat x0.toNat, UInt8.ofNat x1.toNat, UInt8.ofNat x2.toNat]⟩) W := by
    intro W x0 x1 x2 c0 c1 c2
    have := run_convert_bytes_arg (P := Try.prog) W 52 5 Try.underlying52 Try.underlying5 w.heap.size 0 3 3 [x0, x1, x2] rfl (fun i hi => by
      match i, hi with
      | 0, _ => simpa using c0 | 1, _ => simpa using c1 | 2, _ => simpa using c2) 9 Try.underlying9
    simpa [strOfNums] using this
  go_enter Try.func50, Try.ntmps50
  go_wp2_with fail
  refine wp_loop_rounds 4 ?_
  repeat (rw [rounds_succ]; go_wp2)
  go_ret
  exact ⟨rfl, (by repeat (first | with_reducible exact Kept.refl _ | with_reducible assumption | with_reducible refine Kept.setCell ?_ (by first | (simp; done) | (simp; omega) | omega) _ | with_reducible refine Kept.alloc ?_ _ | with_reducible refine Kept.drewN ?_ _ | with_reducible refine Kept.drew ?_ | with_reducible refine Kept.trans ?_ (by with_reducible assumption) | with_reducible refine Kept.dr ?_ (by with_reducible assumption)))⟩
set_option maxHeartbeats 1000000 in
theorem dec4 (n : Int) (h0 : 0 ≤ n) (h1 : n ≤ 9223372036854775807) (w : World) : Calls Try.prog 50 #[.int .i64 n, .int .i64 4] w fun e w' => e = .returned (.string (d4 n)) ∧ Kept w w' := by
  have mk : ∀ W : World, (Instr.makeSlice 52 (.int .i64 4) (.int .i64 4)).run Try.prog W = .ok (.slice (some ⟨W.heap.size, 0, none⟩) 4 4) (W.alloc (.cells #[.int .u8 0, .int .u8 0, .int .u8 0, .int .u8 0] 5)) := fun W => by
    have h := mk_bytes 4 (by decide) W
    rw [show madeCells #[.int .u8 0] 4 = #[.int .u8 0, .int .u8 0, .int .u8 0, .int .u8 0] from by rw [made1]; rfl] at h
    exact h
  have cv : ∀ (W : World) (x0 x1 x2 x3 : Int), W.cell? ⟨w.heap.size, 0, none⟩ = some (.int .u8 x0) → W.cell? ⟨w.heap.size, 1, none⟩ = some (.int .u8 x1) → W.cell? ⟨w.heap.size, 2, none⟩ = some (.int .u8 x2) → W.cell? ⟨w.heap.size, 3, none⟩ = some (.int .u8 x3) → (convert 52 9 (.slice (some ⟨w.heap.size, 0, none⟩) 4 4)).run Try.prog W = .ok (.string ⟨#[UInt8.ofNat x0.toNat, UInt8.ofNat x1.toNat, UInt8.ofNat x2.toNat, UInt8.ofNat x3.toNat]⟩) W := by
    intro W x0 x1 x2 x3 c0 c1 c2 c3
    have := run_convert_bytes_arg (P := Try.prog) W 52 5 Try.underlying52 Try.underlying5 w.heap.size 0 4 4 [x0, x1, x2, x3] rfl (fun i hi => by
      match i, hi with
      | 0, _ => simpa using c0 | 1, _ => simpa using c1 | 2, _ => simpa using c2 | 3, _ => simpa using c3) 9 Try.underlying9
    simpa [strOfNums] using this
  go_enter Try.func50, Try.ntmps50
  go_wp2_with fail
  refine wp_loop_rounds 5 ?_
  repeat (rw [rounds_succ]; go_wp2)
  go_ret
  exact ⟨rfl, (by repeat (first | with_reducible exact Kept.refl _ | with_reducible assumption | with_reducible refine Kept.setCell ?_ (by first | (simp; done) | (simp; omega) | omega) _ | with_reducible refine Kept.alloc ?_ _ | with_reducible refine Kept.drewN ?_ _ | with_reducible refine Kept.drew ?_ | with_reducible refine Kept.trans ?_ (by with_reducible assumption) | with_reducible refine Kept.dr ?_ (by with_reducible assumption)))⟩
set_option maxHeartbeats 1000000 in
theorem sex2 (a : Int) (h0 : 0 ≤ a) (h1 : a ≤ 9223372036854775807) (w : World) : Calls Try.prog 51 #[.int .i64 a, .int .i64 2] w fun e w' => e = .returned (.string (sx2 a)) ∧ Kept w w' := by
  go_enter Try.func51, Try.ntmps51
  go_wp2_with (first | (go_at_call 50; (first | with_reducible refine (dec2 _ (by omega) (by omega) _).mono ?_ | with_reducible refine (dec3 _ (by omega) (by omega) _).mono ?_ | with_reducible refine (dec4 _ (by omega) (by omega) _).mono ?_); rintro e w' ⟨rfl, hk⟩))
  go_ret
  exact ⟨rfl, (by repeat (first | with_reducible exact Kept.refl _ | with_reducible assumption | with_reducible refine Kept.setCell ?_ (by first | (simp; done) | (simp; omega) | omega) _ | with_reducible refine Kept.alloc ?_ _ | with_reducible refine Kept.drewN ?_ _ | with_reducible refine Kept.drew ?_ | with_reducible refine Kept.trans ?_ (by with_reducible assumption) | with_reducible refine Kept.dr ?_ (by with_reducible assumption)))⟩
set_option maxHeartbeats 1000000 in
theorem sex3 (a : Int) (h0 : 0 ≤ a) (h1 : a ≤ 9223372036854775807) (w : World) : Calls Try.prog 51 #[.int .i64 a, .int .i64 3] w fun e w' => e = .returned (.string (sx3 a)) ∧ Kept w w' := by
  go_enter Try.func51, Try.ntmps51
  go_wp2_with (first | (go_at_call 50; (first | with_reducible refine (dec2 _ (by omega) (by omega) _).mono ?_ | with_reducible refine (dec3 _ (by omega) (by omega) _).mono ?_ | with_reducible refine (dec4 _ (by omega) (by omega) _).mono ?_); rintro e w' ⟨rfl, hk⟩))
  go_ret
  exact ⟨rfl, (by repeat (first | with_reducible exact Kept.refl _ | with_reducible assumption | with_reducible refine Kept.setCell ?_ (by first | (simp; done) | (simp; omega) | omega) _ | with_reducible refine Kept.alloc ?_ _ | with_reducible refine Kept.drewN ?_ _ | with_reducible refine Kept.drew ?_ | with_reducible refine Kept.trans ?_ (by with_reducible assumption) | with_reducible refine Kept.dr ?_ (by with_reducible assumption)))⟩
theorem signed2_neg (a : Int) (p q : UInt8) (h0 : a < 0) (h1 : -9223372036854775808 < a) (w : World) : Calls Try.prog 46 #[.int .i64 a, .string ⟨#[p]⟩, .string ⟨#[q]⟩, .int .i64 2] w fun e w' => e = .returned (.string (⟨#[q]⟩ ++ sx2 (-a))) ∧ Kept w w' := by
  have z2 := sx2_size
  have z3 := sx3_size
  go_enter Try.func46, Try.ntmps46
  go_wp2_with (first | (go_at_call 51; (first | with_reducible refine (sex2 _ (by omega) (by omega) _).mono ?_ | with_reducible refine (sex3 _ (by omega) (by omega) _).mono ?_); rintro e w' ⟨rfl, hk⟩))
  go_ret
  exact ⟨rfl, (by repeat (first | with_reducible exact Kept.refl _ | with_reducible assumption | with_reducible refine Kept.setCell ?_ (by first | (simp; done) | (simp; omega) | omega) _ | with_reducible refine Kept.alloc ?_ _ | with_reducible refine Kept.drewN ?_ _ | with_reducible refine Kept.drew ?_ | with_reducible refine Kept.trans ?_ (by with_reducible assumption) | with_reducible refine Kept.dr ?_ (by with_reducible assumption)))⟩
theorem signed2_pos (a : Int) (p q : UInt8) (h0 : 0 ≤ a) (h1 : a ≤ 9223372036854775807) (w : World) : Calls Try.prog 46 #[.int .i64 a, .string ⟨#[p]⟩, .string ⟨#[q]⟩, .int .i64 2] w fun e w' => e = .returned (.string (⟨#[p]⟩ ++ sx2 a)) ∧ Kept w w' := by
  have z2 := sx2_size
  have z3 := sx3_size
  go_enter Try.func46, Try.ntmps46
  go_wp2_with (first | (go_at_call 51; (first | with_reducible refine (sex2 _ (by omega) (by omega) _).mono ?_ | with_reducible refine (sex3 _ (by omega) (by omega) _).mono ?_); rintro e w' ⟨rfl, hk⟩))
  go_ret
  exact ⟨rfl, (by repeat (first | with_reducible exact Kept.refl _ | with_reducible assumption | with_reducible refine Kept.setCell ?_ (by first | (simp; done) | (simp; omega) | omega) _ | with_reducible refine Kept.alloc ?_ _ | with_reducible refine Kept.drewN ?_ _ | with_reducible refine Kept.drew ?_ | with_reducible refine Kept.trans ?_ (by with_reducible assumption) | with_reducible refine Kept.dr ?_ (by with_reducible assumption)))⟩
theorem signed3_neg (a : Int) (p q : UInt8) (h0 : a < 0) (h1 : -9223372036854775808 < a) (w : World) : Calls Try.prog 46 #[.int .i64 a, .string ⟨#[p]⟩, .string ⟨#[q]⟩, .int .i64 3] w fun e w' => e = .returned (.string (⟨#[q]⟩ ++ sx3 (-a))) ∧ Kept w w' := by
  have z2 := sx2_size
  have z3 := sx3_size
  go_enter Try.func46, Try.ntmps46
  go_wp2_with (first | (go_at_call 51; (first | with_reducible refine (sex2 _ (by omega) (by omega) _).mono ?_ | with_reducible refine (sex3 _ (by omega) (by omega) _).mono ?_); rintro e w' ⟨rfl, hk⟩))
  go_ret
  exact ⟨rfl, (by repeat (first | with_reducible exact Kept.refl _ | with_reducible assumption | with_reducible refine Kept.setCell ?_ (by first | (simp; done) | (simp; omega) | omega) _ | with_reducible refine Kept.alloc ?_ _ | with_reducible refine Kept.drewN ?_ _ | with_reducible refine Kept.drew ?_ | with_reducible refine Kept.trans ?_ (by with_reducible assumption) | with_reducible refine Kept.dr ?_ (by with_reducible assumption)))⟩
theorem signed3_pos (a : Int) (p q : UInt8) (h0 : 0 ≤ a) (h1 : a ≤ 9223372036854775807) (w : World) : Calls Try.prog 46 #[.int .i64 a, .string ⟨#[p]⟩, .string ⟨#[q]⟩, .int .i64 3] w fun e w' => e = .returned (.string (⟨#[p]⟩ ++ sx3 a)) ∧ Kept w w' := by
  have z2 := sx2_size
  have z3 := sx3_size
  go_enter Try.func46, Try.ntmps46
  go_wp2_with (first | (go_at_call 51; (first | with_reducible refine (sex2 _ (by omega) (by omega) _).mono ?_ | with_reducible refine (sex3 _ (by omega) (by omega) _).mono ?_); rintro e w' ⟨rfl, hk⟩))
  go_ret
  exact ⟨rfl, (by repeat (first | with_reducible exact Kept.refl _ | with_reducible assumption | with_reducible refine Kept.setCell ?_ (by first | (simp; done) | (simp; omega) | omega) _ | with_reducible refine Kept.alloc ?_ _ | with_reducible refine Kept.drewN ?_ _ | with_reducible refine Kept.drew ?_ | with_reducible refine Kept.trans ?_ (by with_reducible assumption) | with_reducible refine Kept.dr ?_ (by with_reducible assumption)))⟩
def latS (a : Int) : ByteArray := if a < 0 then ⟨#[83]⟩ ++ sx2 (-a) else ⟨#[78]⟩ ++ sx2 a
def lonS (a : Int) : ByteArray := if a < 0 then ⟨#[87]⟩ ++ sx3 (-a) else ⟨#[69]⟩ ++ sx3 a
theorem ret2s {s t : ByteArray} {a b : Int} (h1 : s = t) (h2 : a = b) : Ending.returned (.tuple #[.string s, .int .i64 a]) = .returned (.tuple #[.string t, .int .i64 b]) := by rw [h1, h2]
theorem lattext_ok (a : Int) (h0 : -32400000 ≤ a) (h1 : a ≤ 32400000) (w : World) : Calls Try.prog 27 #[.int .i64 a] w fun e w' => e = .returned (.tuple #[.string (latS a), .int .i64 0]) ∧ Kept w w' := by
  by_cases c : a < 0
  · rw [show latS a = _ from if_pos c]
    go_enter Try.func27, Try.ntmps27
    go_wp2_with (first | (go_at_call 46; (first | with_reducible refine (signed2_neg _ _ _ (by omega) (by omega) _).mono ?_ | with_reducible refine (signed2_pos _ _ _ (by omega) (by omega) _).mono ?_ | with_reducible refine (signed3_neg _ _ _ (by omega) (by omega) _).mono ?_ | with_reducible refine (signed3_pos _ _ _ (by omega) (by omega) _).mono ?_); rintro e w' ⟨rfl, hk⟩))
    go_ret2
    exact ⟨rfl, (by repeat (first | with_reducible exact Kept.refl _ | with_reducible assumption | with_reducible refine Kept.setCell ?_ (by first | (simp; done) | (simp; omega) | omega) _ | with_reducible refine Kept.alloc ?_ _ | with_reducible refine Kept.drewN ?_ _ | with_reducible refine Kept.drew ?_ | with_reducible refine Kept.trans ?_ (by with_reducible assumption) | with_reducible refine Kept.dr ?_ (by with_reducible assumption)))⟩
  · rw [show latS a = _ from if_neg c]
    go_enter Try.func27, Try.ntmps27
    go_wp2_with (first | (go_at_call 46; (first | with_reducible refine (signed2_neg _ _ _ (by omega) (by omega) _).mono ?_ | with_reducible refine (signed2_pos _ _ _ (by omega) (by omega) _).mono ?_ | with_reducible refine (signed3_neg _ _ _ (by omega) (by omega) _).mono ?_ | with_reducible refine (signed3_pos _ _ _ (by omega) (by omega) _).mono ?_); rintro e w' ⟨rfl, hk⟩))
    go_ret2
    exact ⟨rfl, (by repeat (first | with_reducible exact Kept.refl _ | with_reducible assumption | with_reducible refine Kept.setCell ?_ (by first | (simp; done) | (simp; omega) | omega) _ | with_reducible refine Kept.alloc ?_ _ | with_reducible refine Kept.drewN ?_ _ | with_reducible refine Kept.drew ?_ | with_reducible refine Kept.trans ?_ (by with_reducible assumption) | with_reducible refine Kept.dr ?_ (by with_reducible assumption)))⟩
theorem lattext_bad (a : Int) (h : a < -32400000 ∨ 32400000 < a) (w : World) : Calls Try.prog 27 #[.int .i64 a] w fun e w' => e = .returned (.tuple #[.string ⟨#[]⟩, .int .i64 2]) ∧ Kept w w' := by
  rcases h with h | h
  all_goals
    go_enter Try.func27, Try.ntmps27
    go_wp2_with (first | (go_at_call 46; (first | with_reducible refine (signed2_neg _ _ _ (by omega) (by omega) _).mono ?_ | with_reducible refine (signed2_pos _ _ _ (by omega) (by omega) _).mono ?_ | with_reducible refine (signed3_neg _ _ _ (by omega) (by omega) _).mono ?_ | with_reducible refine (signed3_pos _ _ _ (by omega) (by omega) _).mono ?_); rintro e w' ⟨rfl, hk⟩))
    go_ret2
    exact ⟨rfl, (by repeat (first | with_reducible exact Kept.refl _ | with_reducible assumption | with_reducible refine Kept.setCell ?_ (by first | (simp; done) | (simp; omega) | omega) _ | with_reducible refine Kept.alloc ?_ _ | with_reducible refine Kept.drewN ?_ _ | with_reducible refine Kept.drew ?_ | with_reducible refine Kept.trans ?_ (by with_reducible assumption) | with_reducible refine Kept.dr ?_ (by with_reducible assumption)))⟩
theorem lontext_ok (a : Int) (h0 : -64800000 < a) (h1 : a ≤ 64800000) (w : World) : Calls Try.prog 28 #[.int .i64 a] w fun e w' => e = .returned (.tuple #[.string (lonS a), .int .i64 0]) ∧ Kept w w' := by
  by_cases c : a < 0
  · rw [show lonS a = _ from if_pos c]
    go_enter Try.func28, Try.ntmps28
    go_wp2_with (first | (go_at_call 46; (first | with_reducible refine (signed2_neg _ _ _ (by omega) (by omega) _).mono ?_ | with_reducible refine (signed2_pos _ _ _ (by omega) (by omega) _).mono ?_ | with_reducible refine (signed3_neg _ _ _ (by omega) (by omega) _).mono ?_ | with_reducible refine (signed3_pos _ _ _ (by omega) (by omega) _).mono ?_); rintro e w' ⟨rfl, hk⟩))
    go_ret2
    exact ⟨rfl, (by repeat (first | with_reducible exact Kept.refl _ | with_reducible assumption | with_reducible refine Kept.setCell ?_ (by first | (simp; done) | (simp; omega) | omega) _ | with_reducible refine Kept.alloc ?_ _ | with_reducible refine Kept.drewN ?_ _ | with_reducible refine Kept.drew ?_ | with_reducible refine Kept.trans ?_ (by with_reducible assumption) | with_reducible refine Kept.dr ?_ (by with_reducible assumption)))⟩
  · rw [show lonS a = _ from if_neg c]
    go_enter Try.func28, Try.ntmps28
    go_wp2_with (first | (go_at_call 46; (first | with_reducible refine (signed2_neg _ _ _ (by omega) (by omega) _).mono ?_ | with_reducible refine (signed2_pos _ _ _ (by omega) (by omega) _).mono ?_ | with_reducible refine (signed3_neg _ _ _ (by omega) (by omega) _).mono ?_ | with_reducible refine (signed3_pos _ _ _ (by omega) (by omega) _).mono ?_); rintro e w' ⟨rfl, hk⟩))
    go_ret2
    exact ⟨rfl, (by repeat (first | with_reducible exact Kept.refl _ | with_reducible assumption | with_reducible refine Kept.setCell ?_ (by first | (simp; done) | (simp; omega) | omega) _ | with_reducible refine Kept.alloc ?_ _ | with_reducible refine Kept.drewN ?_ _ | with_reducible refine Kept.drew ?_ | with_reducible refine Kept.trans ?_ (by with_reducible assumption) | with_reducible refine Kept.dr ?_ (by with_reducible assumption)))⟩
theorem lontext_bad (a : Int) (h : a ≤ -64800000 ∨ 64800000 < a) (w : World) : Calls Try.prog 28 #[.int .i64 a] w fun e w' => e = .returned (.tuple #[.string ⟨#[]⟩, .int .i64 2]) ∧ Kept w w' := by
  rcases h with h | h
  all_goals
    go_enter Try.func28, Try.ntmps28
    go_wp2_with (first | (go_at_call 46; (first | with_reducible refine (signed2_neg _ _ _ (by omega) (by omega) _).mono ?_ | with_reducible refine (signed2_pos _ _ _ (by omega) (by omega) _).mono ?_ | with_reducible refine (signed3_neg _ _ _ (by omega) (by omega) _).mono ?_ | with_reducible refine (signed3_pos _ _ _ (by omega) (by omega) _).mono ?_); rintro e w' ⟨rfl, hk⟩))
    go_ret2
    exact ⟨rfl, (by repeat (first | with_reducible exact Kept.refl _ | with_reducible assumption | with_reducible refine Kept.setCell ?_ (by first | (simp; done) | (simp; omega) | omega) _ | with_reducible refine Kept.alloc ?_ _ | with_reducible refine Kept.drewN ?_ _ | with_reducible refine Kept.drew ?_ | with_reducible refine Kept.trans ?_ (by with_reducible assumption) | with_reducible refine Kept.dr ?_ (by with_reducible assumption)))⟩
theorem course_w (a : Int) (a_0 : -9223372036854775808 ≤ a) (a_1 : a ≤ 9223372036854775807) (w : World) : Calls Try.prog 38 #[.int .i64 a] w fun e w' => e = .returned (.string (d4 ((nrm a + 18000) / 36000 % 3600))) ∧ Kept w w' := by
  obtain ⟨b0, b1⟩ := nrm_bd a
  go_enter Try.func38, Try.ntmps38
  go_wp2_with (first | (go_at_call 13; (first | refine (norm_w _ (by omega) (by omega) _).mono ?_); rintro e w' ⟨rfl, rfl⟩) | (go_at_call 50; (first | with_reducible refine (dec2 _ (by omega) (by omega) _).mono ?_ | with_reducible refine (dec3 _ (by omega) (by omega) _).mono ?_ | with_reducible refine (dec4 _ (by omega) (by omega) _).mono ?_); rintro e w' ⟨rfl, hk⟩))
  go_ret
  exact ⟨rfl, (by repeat (first | with_reducible exact Kept.refl _ | with_reducible assumption | with_reducible refine Kept.setCell ?_ (by first | (simp; done) | (simp; omega) | omega) _ | with_reducible refine Kept.alloc ?_ _ | with_reducible refine Kept.drewN ?_ _ | with_reducible refine Kept.drew ?_ | with_reducible refine Kept.trans ?_ (by with_reducible assumption) | with_reducible refine Kept.dr ?_ (by with_reducible assumption)))⟩
theorem exact_w (a : Int) (a_0 : -9223372036854775808 ≤ a) (a_1 : a ≤ 9223372036854775807) (w : World) : Calls Try.prog 39 #[.int .i64 a] w fun e w' => e = .returned (.string (sx3 (nrm a))) ∧ Kept w w' := by
  obtain ⟨b0, b1⟩ := nrm_bd a
  go_enter Try.func39, Try.ntmps39
  go_wp2_with (first | (go_at_call 13; (first | refine (norm_w _ (by omega) (by omega) _).mono ?_); rintro e w' ⟨rfl, rfl⟩) | (go_at_call 51; (first | with_reducible refine (sex2 _ (by omega) (by omega) _).mono ?_ | with_reducible refine (sex3 _ (by omega) (by omega) _).mono ?_); rintro e w' ⟨rfl, hk⟩))
  go_ret
  exact ⟨rfl, (by repeat (first | with_reducible exact Kept.refl _ | with_reducible assumption | with_reducible refine Kept.setCell ?_ (by first | (simp; done) | (simp; omega) | omega) _ | with_reducible refine Kept.alloc ?_ _ | with_reducible refine Kept.drewN ?_ _ | with_reducible refine Kept.drew ?_ | with_reducible refine Kept.trans ?_ (by with_reducible assumption) | with_reducible refine Kept.dr ?_ (by with_reducible assumption)))⟩
end Go.Proofs.Ytofeijgcbjhkdaa
