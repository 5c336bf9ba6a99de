/-
  Own frame: a slice that came in, opened at every leaf of its elements that is an integer (structs and arrays by value are flat rows of cells).
-/
import Derived.Test.YtoegcfdlecbcjaaBase
import Derived.Deep.Slices
import Derived.ChangeSame
namespace Go.Proofs.Ytoegcfdlecbcjaa
open Go.ChangeShapes Go.WideShapes Go.ChangeAt Go.RowKit Go.Deep
set_option linter.unusedVariables false
set_option linter.unusedSimpArgs false

theorem slice_leaf {H : Type} {enc : TypeId × Value → H} {P : Program} {w : World} {base : Nat} {held : Bool} {t e : TypeId} {p : Option Addr} {len cap : Nat} {d : DataW H} {ps : List MemPlace}
    (ht : P.underlying t = some (.slice e)) (hc : 0 < P.cellsOf e) (hr : DataW.Trod enc P w base (fun _ => true) held t (.slice p len cap) d ps) :
    ∃ (b off : Nat), len ≤ cap ∧ cap ≤ maxLen ∧ (0 < len → p = some ⟨b, off, none⟩ ∧ b < w.heap.size) ∧
      ∀ (o : Nat) (l : TypeId) (k : IntKind), leafAt P 12 e o = some l → P.underlying l = some (.int k) → o < P.cellsOf e →
        ∃ F : Nat → Int, ∀ i, i < len → w.cell? ⟨b, off + (i * P.cellsOf e + o), none⟩ = some (.int k (F i)) ∧ (Lit.int k (F i)).wf = true := by
  obtain ⟨fuel, hf⟩ := hr
  rcases open_slice ht hf with ⟨hcs, _⟩ | ⟨a, len', cap', m, n, D, Pl, hcs, hb, hl, hm, hmm, _, hx⟩
  · simp [Value.cells] at hcs
    obtain ⟨rfl, rfl, rfl⟩ := hcs
    exact ⟨0, 0, Nat.le_refl _, Nat.zero_le _, fun h => absurd h (by omega), fun o l k _ _ _ => ⟨fun _ => 0, fun i hi => absurd hi (by omega)⟩⟩
  · simp [Value.cells] at hcs
    obtain ⟨rfl, rfl, rfl⟩ := hcs
    simp only [if_true] at hmm
    subst hmm
    obtain ⟨b, off, spot⟩ := a
    have hcell : ∀ i, i < len → ∀ o, o < P.cellsOf e → ∃ cs', w.cells? base ((⟨b, off, spot⟩ : Addr).add (i * P.cellsOf e)) (P.cellsOf e) = some cs' ∧ w.cell? ((⟨b, off, spot⟩ : Addr).add (i * P.cellsOf e + o)) = cs'[o]? ∧ DataW.trod enc P w base (fun _ => true) held n e cs' = some (D i, Pl i) := by
      intro i hi o ho
      obtain ⟨cs', h1, h2⟩ := hx i (by omega)
      refine ⟨cs', h1, ?_, h2⟩
      have := (World.cells?_some h1).2.2 o ho
      rw [add_add] at this
      exact this
    have hspot : 0 < len → spot = none ∧ b < w.heap.size := by
      intro h0
      obtain ⟨cs', h1, h2, h3⟩ := hcell 0 h0 0 hc
      have hlen := (World.cells?_some h1).2.1
      rw [List.getElem?_eq_getElem (by omega)] at h2
      have h4 := World.cell?_spot h2
      have h5 := World.block_lt_of_cell? _ _ h2
      simp [Addr.add] at h4 h5
      exact ⟨h4, h5⟩
    refine ⟨b, off, by omega, by omega, fun h0 => by rw [(hspot h0).1]; exact ⟨rfl, (hspot h0).2⟩, fun o l k hl' hk ho => ?_⟩
    have each : ∀ i, i < len → ∃ z : Int, w.cell? ⟨b, off + (i * P.cellsOf e + o), none⟩ = some (.int k z) ∧ (Lit.int k z).wf = true := by
      intro i hi
      obtain ⟨cs', h1, h2, h3⟩ := hcell i hi o ho
      obtain ⟨m', y, c, hc', hy⟩ := leaf_reads 12 e o l n _ _ hl' h3
      obtain ⟨z, hz, _, hw⟩ := DataW.trod_int hk hy
      cases hz
      rw [(hspot (by omega)).1, add_plain, hc'] at h2
      exact ⟨z, h2, hw⟩
    obtain ⟨F, hF⟩ := choose_lt (α := Int) each
    exact ⟨F, hF⟩
theorem slice_nil {H : Type} {enc : TypeId × Value → H} {P : Program} {w : World} {base : Nat} {held : Bool} {t e : TypeId} {p : Option Addr} {len cap : Nat} {d : DataW H} {ps : List MemPlace}
    (ht : P.underlying t = some (.slice e)) (hr : DataW.Trod enc P w base (fun _ => true) held t (.slice p len cap) d ps) : p = none → cap = 0 := by
  obtain ⟨fuel, hf⟩ := hr
  rcases open_slice ht hf with ⟨hcs, _⟩ | ⟨a, len', cap', m, n, D, Pl, hcs, _⟩
  · simp [Value.cells] at hcs
    exact fun _ => hcs.2.2
  · simp [Value.cells] at hcs
    intro h
    rw [h] at hcs
    exact absurd hcs.1 (by simp)
end Go.Proofs.Ytoegcfdlecbcjaa
