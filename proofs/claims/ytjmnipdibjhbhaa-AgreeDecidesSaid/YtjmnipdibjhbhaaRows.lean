/-
  No cell of these rows narrows 'for every input' (looked for: loops, veiled, ifaces, maps, wideKeys, modest, calm, conditions, laid).
  DERIVED. THE GIVEN ROWS OF THIS SEAT. 2 by the template 'for every input the law returns true; each argument reads behind the call as it read before'; 0 by the template 'total and deterministic' (their statements: YtjmnipdibjhbhaaTotals.lean).
  GIVEN WITH THE SEED: the statements are not yours to turn. If you find one false, say at which input.
  Laid BY PROGRAM, IN A SANDBOX (cutbox-rows.mjs): the forced cells as the released guide's own fill.sh prints them over the translation 5863e685935cd51e… (all of the seat's roots in one cut). By AI agents, Wed Nov 11 2026. No macro, syntax, notation, axiom, sorry.
-/
import Derived.Test.YtjmnipdibjhbhaaChecked
import GoSem.Claim
import GoSem.ClaimJoined
import GoSem.ClaimMapViews
import Derived.JoinedTies
import Derived.KernelRfl
namespace Go.Proofs.Ytjmnipdibjhbhaa
/- THE CELL 'sum', in the pinned program and in every row, IS THE sha256 OF THE DUMP (.gsa) THAT YtjmnipdibjhbhaaProg.lean LOADS. Nothing in Lean hashes anything: it is a label: what it is worth is what the hold of that sum in a sandbox is worth. -/
noncomputable def Try.pinned : Pinned := { name := "ytjmnipdibjhbhaa", sum := "5863e685935cd51e8efb8c57018bf557e7e1554b8e545286462f23cde01ed2c3", checked := Try.checked }
namespace Rows
def none {H : Type} : Left H := { results := [], args := [] }

/-- 'flightdecklaw53.AgreeDecides': WHATEVER THE INPUT: true; the input reads as it did. -/
def agreeDecidesSpec : ChangeSpec := { name := "agreeDecides", fn := fun _ => fun
  | [d] => { results := [.lit (.bool true)], args := [d] }
  | _ => none }
def agreeDecidesRow : OpenClaim := { program := "ytjmnipdibjhbhaa", sum := "5863e685935cd51e8efb8c57018bf557e7e1554b8e545286462f23cde01ed2c3", func := "flightdeck/flightdecklaw53.AgreeDecides", spec := "agreeDecides", apart := false }
def AgreeDecidesSaid : Prop := agreeDecidesRow.holds Try.pinned (OpenSpec.ofChange agreeDecidesSpec)

/-- ITS FALSE NEIGHBOUR: 'it returns false'. Refute it at one input. -/
def agreeDecidesWrong : ChangeSpec := { name := "agreeDecides", fn := fun _ => fun
  | [d] => { results := [.lit (.bool false)], args := [d] }
  | _ => none }
def AgreeDecidesWrongFalsely : Prop := agreeDecidesRow.holds Try.pinned (OpenSpec.ofChange agreeDecidesWrong)

/-- 'flightdecklaw53.AgreeOne': WHATEVER THE INPUT: true; the input reads as it did. -/
def agreeOneSpec : ChangeSpec := { name := "agreeOne", fn := fun _ => fun
  | [d] => { results := [.lit (.bool true)], args := [d] }
  | _ => none }
def agreeOneRow : OpenClaim := { program := "ytjmnipdibjhbhaa", sum := "5863e685935cd51e8efb8c57018bf557e7e1554b8e545286462f23cde01ed2c3", func := "flightdeck/flightdecklaw53.AgreeOne", spec := "agreeOne", apart := false }
def AgreeOneSaid : Prop := agreeOneRow.holds Try.pinned (OpenSpec.ofChange agreeOneSpec)

/-- ITS FALSE NEIGHBOUR: 'it returns false'. Refute it at one input. -/
def agreeOneWrong : ChangeSpec := { name := "agreeOne", fn := fun _ => fun
  | [d] => { results := [.lit (.bool false)], args := [d] }
  | _ => none }
def AgreeOneWrongFalsely : Prop := agreeOneRow.holds Try.pinned (OpenSpec.ofChange agreeOneWrong)

/- THE SECOND FORM. 'bulk': how many values and letters a reading holds, each counted each time it is reached (what is shared counts as often as it is met; a slice's spare places count too). A statement '..UptoSaid' is the law's where the arguments, and the package variables that the reading takes, are together of bulk at most 1048576: NARROWER than '..Said'. Prove '..Said' where nothing that the law and all that it calls make is longer than what came in: it says more and counts as full. Else prove '..UptoSaid'. A law counts once. -/
mutual
def uptoBulk {H : Type} : DataW H → Nat
  | .lit (.string bytes) => bytes.length + 1
  | .lit _ => 1
  | .nil => 1
  | .ptr d => uptoBulk d + 1
  | .slice elems spare => uptoBulkAll elems + uptoBulkAll spare + 1
  | .agg parts => uptoBulkAll parts + 1
  | .iface _ d => uptoBulk d + 1
  | .map entries => uptoBulkEntries entries + 1
  | .held _ => 1
def uptoBulkAll {H : Type} : List (DataW H) → Nat
  | [] => 0
  | d :: r => uptoBulk d + uptoBulkAll r
def uptoBulkEntries {H : Type} : List (Lit × DataW H) → Nat
  | [] => 0
  | x :: r => uptoBulkEntry x + uptoBulkEntries r
def uptoBulkEntry {H : Type} : Lit × DataW H → Nat
  | (.string bytes, d) => bytes.length + uptoBulk d + 1
  | (_, d) => uptoBulk d + 1
 end
def uptoSmall : (H : Type) → List (DataW H) → Bool := fun _ ds => decide (uptoBulkAll ds ≤ 1048576)
def OpenSpec.upto (s : _root_.Go.ChangeSpec) : _root_.Go.OpenSpec := { _root_.Go.OpenSpec.ofChange s with cond := some uptoSmall }

/-- 'flightdecklaw53.AgreeDecides', WHERE WHAT IT READS IS OF BULK AT MOST 1048576: true; the input reads as it did. -/
def agreeDecidesUptoRow : OpenClaim := { program := "ytjmnipdibjhbhaa", sum := "5863e685935cd51e8efb8c57018bf557e7e1554b8e545286462f23cde01ed2c3", func := "flightdeck/flightdecklaw53.AgreeDecides", spec := "agreeDecides", apart := false, narrowed := true }
def AgreeDecidesUptoSaid : Prop := agreeDecidesUptoRow.holds Try.pinned (OpenSpec.upto agreeDecidesSpec)

/-- 'flightdecklaw53.AgreeOne', WHERE WHAT IT READS IS OF BULK AT MOST 1048576: true; the input reads as it did. -/
def agreeOneUptoRow : OpenClaim := { program := "ytjmnipdibjhbhaa", sum := "5863e685935cd51e8efb8c57018bf557e7e1554b8e545286462f23cde01ed2c3", func := "flightdeck/flightdecklaw53.AgreeOne", spec := "agreeOne", apart := false, narrowed := true }
def AgreeOneUptoSaid : Prop := agreeOneUptoRow.holds Try.pinned (OpenSpec.upto agreeOneSpec)

end Rows
end Go.Proofs.Ytjmnipdibjhbhaa
