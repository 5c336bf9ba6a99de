/-
  Own contracts: strconv.FormatInt at base 10.
-/
import Derived.Test.YtfpgdicacjkfoaaGreatDoorStr
import Derived.Test.YtfpgdicacjkfoaaGreatDoorShelf
import Derived.Laws.Runes
import Derived.Lib.ItoaNum
import Derived.Lib.LaidTab
import Derived.Shelf.Strconv.Itoa2
import Derived.WalkKit
import Derived.ProofKit
import Derived.OpenShut
import Derived.WalkLawsBesides
import Derived.WalkSpells
import Derived.Lib.Hide
import Derived.Deep.DeepCutAuto
import Derived.Deep.CutBlock
import Derived.Deep.QuietTactic
import Derived.BigQuiet
import Derived.Handy
import Derived.StillTailTactics
import Derived.IntWalk
import Derived.LoopN
import Derived.Deep.RegionHeld3
namespace Go.Proofs.YtfpgdicacjkfoaaGreatDoor
open Go.ChangeShapes Go.WideShapes Go.ChangeAt Go.RowKit
set_option linter.unusedVariables false
set_option linter.unusedSimpArgs false
theorem dec_one (n : Int) (h0 : 0 ≤ n) (h1 : n < 10) : Lib.decDigits n.toNat = [dgt n] := by
  rw [Lib.decDigits, dif_pos (by omega)]
  unfold dgt
  rw [show 48 + n.toNat = (48 + n % 10).toNat by omega]
theorem dec_more (n : Int) (h0 : 10 ≤ n) : Lib.decDigits n.toNat = Lib.decDigits (n / 10).toNat ++ [dgt n] := by
  rw [Lib.decDigits, dif_neg (by omega)]
  unfold dgt
  rw [show n.toNat / 10 = (n / 10).toNat by omega, show 48 + n.toNat % 10 = (48 + n % 10).toNat by omega]
def P10 (w : World) : Prop := Lib.TabIs Tryz.prog w "internal/strconv.uint64pow10" .u64 Lib.pow10Tab
theorem tabis_kept {nm : String} {k : IntKind} {l : List Int} {w w' : World} (h : Lib.TabIs Tryz.prog w nm k l) (kk : Kept w w') : Lib.TabIs Tryz.prog w' nm k l := by
  unfold Lib.TabIs World.var? at *
  cases hg : Tryz.prog.globalNamed nm with
  | none => simp [hg] at h
  | some g =>
    simp only [hg, Option.bind_some] at h ⊢
    have hlt : g < w.heap.size := by
      rcases Nat.lt_or_ge g w.heap.size with h' | h'
      · exact h'
      · rw [Array.getElem?_eq_none h'] at h; simp at h
    rw [kk.block g hlt]
    exact h
theorem kept_grow (w : World) (os : Array Obj) : Kept w (Go.Sort.grow w os) := by
  refine ⟨rfl, rfl, by simp [Go.Sort.grow], fun i hi => ?_⟩
  simp [Go.Sort.grow, Array.getElem?_append, hi]
theorem fmt_small (n : Int) (h0 : 0 ≤ n) (h1 : n < 100) (s : ByteArray) (hs : (⟨(Lib.decDigits n.toNat).toArray⟩ : ByteArray) = s) (w : World) : Calls Tryz.prog 49 #[.int .i64 n, .int .i64 10] w fun e w' => e = .returned (.string s) ∧ w = w' := by
  obtain ⟨u, rfl⟩ : ∃ u : Nat, n = u := ⟨n.toNat, by omega⟩
  have h := Tryz.strconv_FormatInt_10_small u (by omega) w
  rw [show (u : Int).toNat = u by omega] at hs
  rw [← hs]
  refine h.mono ?_
  rintro e w' ⟨rfl, h⟩
  exact ⟨rfl, h.symm⟩
theorem fmt_any (n : Int) (h0 : 0 ≤ n) (h1 : n ≤ 9223372036854775807) (s : ByteArray) (hs : (⟨(Lib.decDigits n.toNat).toArray⟩ : ByteArray) = s) (w : World) (hP : Hid (P10 w)) : Calls Tryz.prog 49 #[.int .i64 n, .int .i64 10] w fun e w' => e = .returned (.string s) ∧ Kept w w' := by
  have h := Tryz.strconv_FormatInt_10 n (by omega) (by omega) w hP.out
  rw [← hs]
  refine h.mono ?_
  rintro e w' ⟨rfl, k, os, rfl⟩
  refine ⟨by unfold Lib.itoa; rw [if_neg (by omega)], ?_⟩
  first | exact (kept_grow _ _).trans' | exact Kept.trans ((Kept.refl w).drewN k) (kept_grow _ _)
theorem enc (x : Int) (h0 : 48 ≤ x) (h1 : x ≤ 57) : Utf8.encode x = ⟨#[UInt8.ofNat x.toNat]⟩ := by
  have h : ∀ k : Fin 10, Utf8.encode (48 + (k.val : Int)) = ⟨#[UInt8.ofNat (48 + (k.val : Int)).toNat]⟩ := by decide +kernel
  have := h ⟨(x - 48).toNat, by omega⟩
  rwa [show (48 : Int) + ((⟨(x - 48).toNat, by omega⟩ : Fin 10).val : Int) = x by show 48 + (((x - 48).toNat : Nat) : Int) = x; omega] at this
end Go.Proofs.YtfpgdicacjkfoaaGreatDoor
