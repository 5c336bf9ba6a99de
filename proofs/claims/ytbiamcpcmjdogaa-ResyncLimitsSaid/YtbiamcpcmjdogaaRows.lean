/-
  No cell of these rows narrows 'for every input' (looked for: loops, veiled, ifaces, maps, wideKeys, modest, calm, conditions, laid).
  DERIVED. THE GIVEN ROWS OF THIS SEAT. 2 by the template 'for every input the law returns true; each argument reads behind the call as it read before'; 0 by the template 'total and deterministic' (their statements: YtbiamcpcmjdogaaTotals.lean).
  GIVEN WITH THE SEED: the statements are not yours to turn. If you find one false, say at which input.
  Laid BY PROGRAM, IN A SANDBOX (cutbox-rows.mjs): the forced cells as the released guide's own fill.sh prints them over the translation 7e8a4593b4d6f877… (all of the seat's roots in one cut). By AI agents, Wed Nov 11 2026. No macro, syntax, notation, axiom, sorry.
-/
import Derived.Test.YtbiamcpcmjdogaaChecked
import GoSem.Claim
import GoSem.ClaimJoined
import GoSem.ClaimMapViews
import Derived.JoinedTies
import Derived.KernelRfl
namespace Go.Proofs.Ytbiamcpcmjdogaa
/- THE CELL 'sum', in the pinned program and in every row, IS THE sha256 OF THE DUMP (.gsa) THAT YtbiamcpcmjdogaaProg.lean LOADS. Nothing in Lean hashes anything: it is a label: what it is worth is what the hold of that sum in a sandbox is worth. -/
noncomputable def Try.pinned : Pinned := { name := "ytbiamcpcmjdogaa", sum := "7e8a4593b4d6f8770206d3e8ed8b1fa0a4185f791c550245e704237834528d3f", checked := Try.checked }
namespace Rows
def none {H : Type} : Left H := { results := [], args := [] }

/-- 'flightdecklaw54.ResyncLimits': WHATEVER THE INPUT: true; the input reads as it did. -/
def resyncLimitsSpec : ChangeSpec := { name := "resyncLimits", fn := fun _ => fun
  | [d1, d2, d3] => { results := [.lit (.bool true)], args := [d1, d2, d3] }
  | _ => none }
def resyncLimitsRow : OpenClaim := { program := "ytbiamcpcmjdogaa", sum := "7e8a4593b4d6f8770206d3e8ed8b1fa0a4185f791c550245e704237834528d3f", func := "flightdeck/flightdecklaw54.ResyncLimits", spec := "resyncLimits", apart := false }
def ResyncLimitsSaid : Prop := resyncLimitsRow.holds Try.pinned (OpenSpec.ofChange resyncLimitsSpec)

/-- ITS FALSE NEIGHBOUR: 'it returns false'. Refute it at one input. -/
def resyncLimitsWrong : ChangeSpec := { name := "resyncLimits", fn := fun _ => fun
  | [d1, d2, d3] => { results := [.lit (.bool false)], args := [d1, d2, d3] }
  | _ => none }
def ResyncLimitsWrongFalsely : Prop := resyncLimitsRow.holds Try.pinned (OpenSpec.ofChange resyncLimitsWrong)

/-- 'flightdecklaw54.ResyncSelects': WHATEVER THE INPUT: true; the input reads as it did. -/
def resyncSelectsSpec : ChangeSpec := { name := "resyncSelects", fn := fun _ => fun
  | [d1, d2] => { results := [.lit (.bool true)], args := [d1, d2] }
  | _ => none }
def resyncSelectsRow : OpenClaim := { program := "ytbiamcpcmjdogaa", sum := "7e8a4593b4d6f8770206d3e8ed8b1fa0a4185f791c550245e704237834528d3f", func := "flightdeck/flightdecklaw54.ResyncSelects", spec := "resyncSelects", apart := false }
def ResyncSelectsSaid : Prop := resyncSelectsRow.holds Try.pinned (OpenSpec.ofChange resyncSelectsSpec)

/-- ITS FALSE NEIGHBOUR: 'it returns false'. Refute it at one input. -/
def resyncSelectsWrong : ChangeSpec := { name := "resyncSelects", fn := fun _ => fun
  | [d1, d2] => { results := [.lit (.bool false)], args := [d1, d2] }
  | _ => none }
def ResyncSelectsWrongFalsely : Prop := resyncSelectsRow.holds Try.pinned (OpenSpec.ofChange resyncSelectsWrong)

/- THE SECOND FORM. 'bulk': how many values and letters a reading holds, each counted each time it is reached (what is shared counts as often as it is met; a slice's spare places count too). A statement '..UptoSaid' is the law's where the arguments, and the package variables that the reading takes, are together of bulk at most 1048576: NARROWER than '..Said'. Prove '..Said' where nothing that the law and all that it calls make is longer than what came in: it says more and counts as full. Else prove '..UptoSaid'. A law counts once. -/
mutual
def uptoBulk {H : Type} : DataW H → Nat
  | .lit (.string bytes) => bytes.length + 1
  | .lit _ => 1
  | .nil => 1
  | .ptr d => uptoBulk d + 1
  | .slice elems spare => uptoBulkAll elems + uptoBulkAll spare + 1
  | .agg parts => uptoBulkAll parts + 1
  | .iface _ d => uptoBulk d + 1
  | .map entries => uptoBulkEntries entries + 1
  | .held _ => 1
def uptoBulkAll {H : Type} : List (DataW H) → Nat
  | [] => 0
  | d :: r => uptoBulk d + uptoBulkAll r
def uptoBulkEntries {H : Type} : List (Lit × DataW H) → Nat
  | [] => 0
  | x :: r => uptoBulkEntry x + uptoBulkEntries r
def uptoBulkEntry {H : Type} : Lit × DataW H → Nat
  | (.string bytes, d) => bytes.length + uptoBulk d + 1
  | (_, d) => uptoBulk d + 1
 end
def uptoSmall : (H : Type) → List (DataW H) → Bool := fun _ ds => decide (uptoBulkAll ds ≤ 1048576)
def OpenSpec.upto (s : _root_.Go.ChangeSpec) : _root_.Go.OpenSpec := { _root_.Go.OpenSpec.ofChange s with cond := some uptoSmall }

/-- 'flightdecklaw54.ResyncLimits', WHERE WHAT IT READS IS OF BULK AT MOST 1048576: true; the input reads as it did. -/
def resyncLimitsUptoRow : OpenClaim := { program := "ytbiamcpcmjdogaa", sum := "7e8a4593b4d6f8770206d3e8ed8b1fa0a4185f791c550245e704237834528d3f", func := "flightdeck/flightdecklaw54.ResyncLimits", spec := "resyncLimits", apart := false, narrowed := true }
def ResyncLimitsUptoSaid : Prop := resyncLimitsUptoRow.holds Try.pinned (OpenSpec.upto resyncLimitsSpec)

/-- 'flightdecklaw54.ResyncSelects', WHERE WHAT IT READS IS OF BULK AT MOST 1048576: true; the input reads as it did. -/
def resyncSelectsUptoRow : OpenClaim := { program := "ytbiamcpcmjdogaa", sum := "7e8a4593b4d6f8770206d3e8ed8b1fa0a4185f791c550245e704237834528d3f", func := "flightdeck/flightdecklaw54.ResyncSelects", spec := "resyncSelects", apart := false, narrowed := true }
def ResyncSelectsUptoSaid : Prop := resyncSelectsUptoRow.holds Try.pinned (OpenSpec.upto resyncSelectsSpec)

end Rows
end Go.Proofs.Ytbiamcpcmjdogaa
