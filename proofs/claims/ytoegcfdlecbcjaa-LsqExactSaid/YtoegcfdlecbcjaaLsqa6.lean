/-
  Own contracts: own rows of measurements.
-/
import Derived.Test.YtoegcfdlecbcjaaLsqj
import Derived.Laws.AppendOwn
import Derived.Laws.OwnMore
import Derived.OwnWalk
import Derived.OneCell
import Derived.WalkKit
import Derived.ProofKit
import Derived.OpenShut
import Derived.WalkLawsBesides
import Derived.WalkSpells
import Derived.Lib.Hide
import Derived.Deep.DeepCutAuto
import Derived.Deep.CutBlock
import Derived.Deep.QuietTactic
import Derived.BigQuiet
import Derived.Handy
import Derived.StillTailTactics
import Derived.IntWalk
import Derived.LoopN
import Derived.Deep.RegionHeld3
namespace Go.Proofs.Ytoegcfdlecbcjaa
open Go.ChangeShapes Go.WideShapes Go.ChangeAt Go.RowKit
set_option linter.unusedVariables false
set_option linter.unusedSimpArgs false
def rw6 (N : Ms) : Nat → List Value | 0 => [] | k + 1 => rw6 N k ++ [.int .i64 (N.s k), .int .i64 (N.a k), .int .i64 (N.b k), .int .i64 (N.z k), .int .i64 (N.e k), .int .i64 (N.u k)]
theorem rw6_len (N : Ms) : ∀ n, (rw6 N n).length = n * 6
  | 0 => rfl
  | n + 1 => by simp [rw6, rw6_len N n]; omega
theorem rw6_get (N : Ms) : ∀ n i j, i < n → (hj : j < 6) → (rw6 N n)[i * 6 + j]? = [Value.int .i64 (N.s i), .int .i64 (N.a i), .int .i64 (N.b i), .int .i64 (N.z i), .int .i64 (N.e i), .int .i64 (N.u i)][j]?
  | n + 1, i, j, hi, hj => by
    by_cases h : i < n
    · rw [rw6, List.getElem?_append_left (by rw [rw6_len]; omega)]
      exact rw6_get N n i j h hj
    · obtain rfl : i = n := by omega
      rw [rw6, List.getElem?_append_right (by rw [rw6_len]; omega), rw6_len]
      rw [show i * 6 + j - i * 6 = j by omega]
def Own6 (w : World) (base : Nat) (v : Value) (n : Nat) (N : Ms) : Prop := w.ownsRow base 44 6 v n (rw6 N n)
theorem add_nil (b o j : Nat) : (⟨b, o, none⟩ : Addr).add j = ⟨b, o + j, none⟩ := by simp [Addr.add]
theorem own6_sl {w : World} {base n : Nat} {v : Value} {N : Ms} (h : Own6 w base v n N) : ∃ p c g, v = .slice p n c ∧ n ≤ c ∧ c ≤ maxLen ∧ SlM w p n g 0 N := by
  have hc : ∀ g, v.ownBlock = some g → ∀ j u, (rw6 N n)[j]? = some u → w.cell? ((⟨g, 0, none⟩ : Addr).add j) = some u := fun g hg => World.ownsRow.cells h hg
  rcases h.2 with ⟨rfl, h0⟩ | ⟨g, cap, cur, rfl, h1, h2, h3, h4, h5, h6⟩
  · subst h0
    exact ⟨none, 0, 0, rfl, Nat.le_refl _, Nat.zero_le _, ⟨fun h => by omega, fun i hi => by omega, fun i hi => by omega, fun i hi => by omega, fun i hi => by omega, fun i hi => by omega, fun i hi => by omega⟩⟩
  · have hc := hc g rfl
    have at_ : ∀ i j u, i < n → j < 6 → [Value.int .i64 (N.s i), .int .i64 (N.a i), .int .i64 (N.b i), .int .i64 (N.z i), .int .i64 (N.e i), .int .i64 (N.u i)][j]? = some u → w.cell? ⟨g, 0 + (i * 6 + j), none⟩ = some u := by
      intro i j u hi hj e
      have := hc (i * 6 + j) u ((rw6_get N n i j hi hj).trans e)
      rwa [add_nil] at this
    have lt : 0 < n → g < w.heap.size := fun _ => (World.ownsRow.lt h g rfl).2
    refine ⟨_, cap, g, rfl, h3, h4, ⟨fun h0 => ⟨rfl, lt h0⟩, ?_, ?_, ?_, ?_, ?_, ?_⟩⟩
    · intro i hi; have := at_ i 0 _ hi (by omega) rfl; simpa [Nat.add_assoc] using this
    · intro i hi; have := at_ i 1 _ hi (by omega) rfl; simpa [Nat.add_assoc] using this
    · intro i hi; have := at_ i 2 _ hi (by omega) rfl; simpa [Nat.add_assoc] using this
    · intro i hi; have := at_ i 3 _ hi (by omega) rfl; simpa [Nat.add_assoc] using this
    · intro i hi; have := at_ i 4 _ hi (by omega) rfl; simpa [Nat.add_assoc] using this
    · intro i hi; have := at_ i 5 _ hi (by omega) rfl; simpa [Nat.add_assoc] using this
theorem own6_empty (w : World) (base : Nat) (hb : base ≤ w.heap.size) (N : Ms) : Own6 (w.alloc (.cells #[] 44)) base (.slice (some ⟨w.heap.size, 0, none⟩) 0 0) 0 N :=
  World.ownsRow_made w #[] 0 hb (by decide) (by simp)
theorem info6 : (Try.prog.info? 44).map (fun i => (i.zero, i.size, i.bytes)) = some (some (.agg #[.int .i64 0, .int .i64 0, .int .i64 0, .int .i64 0, .int .i64 0, .int .i64 0]), 6, 48) := by kernel_rfl
theorem und6 : Try.prog.underlying 22 = some (.slice 44) := by kernel_rfl
theorem kept_grown {w0 w w' : World} {r : Option Nat} (h : Kept w0 w) (hg : w.grownBy w' r) (hr : ∀ k, r = some k → w0.heap.size ≤ k) : Kept w0 w' :=
  ⟨hg.os.trans h.os, hg.output.trans h.output, Nat.le_trans h.size hg.size, fun k hk => (hg.block k (Nat.lt_of_lt_of_le hk h.size) (fun e => by have := hr k e.symm; omega)).trans (h.block k hk)⟩
/-- appending one measurement that lies in memory -/
theorem app6 {ops : Array Oper} {rest : List Oper} {op : Oper} {a : Act} {Q : Exit → Act → World → Prop} {w : World} (hgd : op.guard = none) (s x : Operand)
    (ho : op.op = .call { callee := .builtin .append, args := #[s, x], argTypes := #[22, 22] }) {base : Nat} {v : Value} {n : Nat} {N : Ms} {ad : Addr} {c : Nat} {q0 q1 q2 q3 q4 q5 : Int}
    (hs : a.eval s = v) (hx : a.eval x = .slice (some ad) 1 c) (hown : Own6 w base v n N) (hq : rw6 N (n + 1) = rw6 N n ++ [.int .i64 q0, .int .i64 q1, .int .i64 q2, .int .i64 q3, .int .i64 q4, .int .i64 q5])
    (hG : ∀ j u, [Value.int .i64 q0, .int .i64 q1, .int .i64 q2, .int .i64 q3, .int .i64 q4, .int .i64 q5][j]? = some u → w.cell? (ad.add j) = some u) (hb : n ≤ 1000) (hbase : base ≤ w.heap.size)
    (h : ∀ v' w', Hid (Own6 w' base v' (n + 1) N) → Hid (w.grownBy w' v.ownBlock) → wpList Try.prog ops Q rest (a.put op.dst v') w') : wpList Try.prog ops Q (op :: rest) a w := by
  obtain ⟨i0, hi, hz0, hz1, hz2⟩ : ∃ i0, Try.prog.info? 44 = some i0 ∧ i0.zero = some (.agg #[.int .i64 0, .int .i64 0, .int .i64 0, .int .i64 0, .int .i64 0, .int .i64 0]) ∧ i0.size = 6 ∧ i0.bytes = 48 := by
    have := info6
    cases e : Try.prog.info? 44 with
    | none => rw [e] at this; cases this
    | some i0 => rw [e] at this; simp at this; exact ⟨i0, rfl, this.1, this.2.1, this.2.2⟩
  refine wpList_append_own _ hgd s x 22 ho base 44 i0 _ 6 48 und6 hi hz0 hz1 hz2 rfl (by decide) v n (rw6 N n) hs hown ad 1 c [.int .i64 q0, .int .i64 q1, .int .i64 q2, .int .i64 q3, .int .i64 q4, .int .i64 q5] hx rfl hG (by intro u hu; simp at hu; rcases hu with rfl | rfl | rfl | rfl | rfl | rfl <;> rfl) (by unfold maxLen; omega) (by omega) hbase ?_
  intro v' w' h1 h2 _
  refine h v' w' (Lib.hid ?_) (Lib.hid h2)
  unfold Own6
  rw [hq]
  exact h1
end Go.Proofs.Ytoegcfdlecbcjaa
