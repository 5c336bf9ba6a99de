/-
  Own frame: a package's table that the row lays, a row of pairs of integers: its cells.
-/
import Derived.Test.YtfpgdicacjkfoaaGreatDoorBase
import Derived.FnData
import Derived.LaidLaws
import Derived.Deep.DeepHandedRow
import Derived.Lib.LaidTab
namespace Go.Proofs.YtfpgdicacjkfoaaGreatDoor
open Go.ChangeShapes Go.WideShapes Go.ChangeAt Go.RowKit
set_option linter.unusedVariables false
theorem laid_at {P : Program} {w : World} {nm : String} {D : DataW Unit} : ∀ {l : List (String × DataW Unit)} {ps : List MemPlace}, DataW.LaidVars P w l ps → (nm, D) ∈ l →
    ∃ g t cs fuel p, P.globalNamed nm = some g ∧ (P.globals[g]?).map (·.type) = some t ∧ w.var? P nm = some cs ∧ DataW.trod (fun _ => ()) P w 0 (fun _ => true) false fuel t cs.toList = some (D, p)
  | [], _, _, h => by cases h
  | (n, d) :: r, ps, ⟨g, t, cs, fuel, p, q, h1, h2, h3, h4, h5, _⟩, h => by
    rcases List.mem_cons.1 h with e | e
    · cases e; exact ⟨g, t, cs, fuel, p, h1, h2, h3, h4⟩
    · exact laid_at h5 e
/-- a table of pairs of integers, as the row lists it -/
def pairs (zs : List (Int × Int)) : DataW Unit := .agg (zs.map fun z => .agg [.lit (.int .i64 z.1), .lit (.int .i64 z.2)])
theorem pairs_cells {P : Program} {w : World} {nm : String} {l : List (String × DataW Unit)} {zs : List (Int × Int)} {g : Nat} {t e u : TypeId} {n : Nat} {f0 f1 : Field}
    (h : laidMet P l w) (hm : (nm, pairs zs) ∈ l) (hg : P.globalNamed nm = some g) (hty : (P.globals[g]?).map (·.type) = some t) (ht : P.underlying t = some (.array n e)) (he : P.underlying e = some (.struct #[f0, f1]))
    (h0 : f0.offset = 0 ∧ f0.type = u) (h1 : f1.offset = 1 ∧ f1.type = u) (hu : P.underlying u = some (.int .i64)) (hcu : P.cellsOf u = 1) (hce : P.cellsOf e = 2) :
    ∀ i, i < n → ∃ z, zs[i]? = some z ∧ w.cell? ⟨g, i * 2, none⟩ = some (.int .i64 z.1) ∧ w.cell? ⟨g, i * 2 + 1, none⟩ = some (.int .i64 z.2) := by
  obtain ⟨ps, hv, _⟩ := h
  obtain ⟨g', t', cs, fuel, p, hg', ht', hvar, hd⟩ := laid_at hv hm
  obtain rfl := Option.some.inj (hg.symm.trans hg')
  obtain rfl := Option.some.inj (hty.symm.trans ht')
  obtain ⟨xs, m, rfl, hx, hlen, hsz, hel⟩ := DataW.trod_array ht hd
  intro i hi
  have hcell := fun j => World.var?_cell hg hvar j
  have hh := hel i hi
  have hxi : i < xs.length := by omega
  rw [List.getElem?_eq_getElem hxi] at hh
  have hxs : xs.map (·.1) = zs.map fun z => (DataW.agg [.lit (.int .i64 z.1), .lit (.int .i64 z.2)] : DataW Unit) := by
    have := congrArg Prod.fst hx
    simpa [pairs] using this.symm
  have hxz := congrArg (·[i]?) hxs
  simp only [List.getElem?_map, List.getElem?_eq_getElem hxi, Option.map_some] at hxz
  cases hz : zs[i]? with
  | none => rw [hz] at hxz; simp at hxz
  | some z =>
    rw [hz] at hxz
    simp only [Option.map_some, Option.some.injEq] at hxz
    refine ⟨z, rfl, ?_⟩
    obtain ⟨y0, y1, m', hy, hl2, hf0, hf1⟩ := trod_struct2 he hh
    have hy0 : y0.1 = .lit (.int .i64 z.1) ∧ y1.1 = .lit (.int .i64 z.2) := by
      have := congrArg Prod.fst hy
      rw [hxz] at this
      simp at this
      exact ⟨this.1.symm, this.2.symm⟩
    rw [h0.1, h0.2, hcu, hce] at hf0
    rw [h1.1, h1.2, hcu, hce] at hf1
    obtain ⟨a, ea, xa, _⟩ := DataW.trod_int hu hf0
    obtain ⟨b, eb, xb, _⟩ := DataW.trod_int hu hf1
    rw [xa] at hy0
    rw [xb] at hy0
    simp at hy0
    have ga : cs.toList[i * 2]? = some (.int .i64 a) := by
      have := congrArg (·[0]?) ea
      simpa [List.getElem?_take, List.getElem?_drop] using this
    have gb : cs.toList[i * 2 + 1]? = some (.int .i64 b) := by
      have := congrArg (·[0]?) eb
      simpa [List.getElem?_take, List.getElem?_drop] using this
    rw [hcell, hcell]
    rw [← hy0.1, ← hy0.2]
    exact ⟨by simpa using ga, by simpa using gb⟩
end Go.Proofs.YtfpgdicacjkfoaaGreatDoor
