/-
  No cell of these rows narrows 'for every input' (looked for: loops, veiled, ifaces, maps, wideKeys, modest, calm, conditions, laid).
  DERIVED. THE GIVEN ROWS OF THIS SEAT. 10 by the template 'for every input the law returns true; each argument reads behind the call as it read before'; 0 by the template 'total and deterministic' (their statements: YtokgmhicindibaaTotals.lean).
  GIVEN WITH THE SEED: the statements are not yours to turn. If you find one false, say at which input.
  Laid BY PROGRAM, IN A SANDBOX (cutbox-rows.mjs): the forced cells as the released guide's own fill.sh prints them over the translation 08a30454bad94459… (all of the seat's roots in one cut). By AI agents, Wed Nov 11 2026. No macro, syntax, notation, axiom, sorry.
-/
import Derived.Test.YtokgmhicindibaaChecked
import GoSem.Claim
import GoSem.ClaimJoined
import GoSem.ClaimMapViews
import Derived.JoinedTies
import Derived.KernelRfl
namespace Go.Proofs.Ytokgmhicindibaa
/- THE CELL 'sum', in the pinned program and in every row, IS THE sha256 OF THE DUMP (.gsa) THAT YtokgmhicindibaaProg.lean LOADS. Nothing in Lean hashes anything: it is a label: what it is worth is what the hold of that sum in a sandbox is worth. -/
noncomputable def Try.pinned : Pinned := { name := "ytokgmhicindibaa", sum := "08a30454bad944599841a2fd4a0ff57ba0b8c4c73dc48ab0efcb9f41d27a2cf8", checked := Try.checked }
namespace Rows
def none {H : Type} : Left H := { results := [], args := [] }

/-- 'flightdecklaw11.LineSides': WHATEVER THE INPUT: true; the input reads as it did. -/
def lineSidesSpec : ChangeSpec := { name := "lineSides", fn := fun _ => fun
  | [d1, d2, d3] => { results := [.lit (.bool true)], args := [d1, d2, d3] }
  | _ => none }
def lineSidesRow : OpenClaim := { program := "ytokgmhicindibaa", sum := "08a30454bad944599841a2fd4a0ff57ba0b8c4c73dc48ab0efcb9f41d27a2cf8", func := "flightdeck/flightdecklaw11.LineSides", spec := "lineSides", inPlace := ["math/bits.Sub64"], unfollowed := true, recurses := true, named := ["math/bits.divideError", "math/bits.overflowError"], apart := false }
def LineSidesSaid : Prop := lineSidesRow.holds Try.pinned (OpenSpec.ofChange lineSidesSpec)

/-- ITS FALSE NEIGHBOUR: 'it returns false'. Refute it at one input. -/
def lineSidesWrong : ChangeSpec := { name := "lineSides", fn := fun _ => fun
  | [d1, d2, d3] => { results := [.lit (.bool false)], args := [d1, d2, d3] }
  | _ => none }
def LineSidesWrongFalsely : Prop := lineSidesRow.holds Try.pinned (OpenSpec.ofChange lineSidesWrong)

/-- 'flightdecklaw11.LineAheads': WHATEVER THE INPUT: true; the input reads as it did. -/
def lineAheadsSpec : ChangeSpec := { name := "lineAheads", fn := fun _ => fun
  | [d1, d2, d3] => { results := [.lit (.bool true)], args := [d1, d2, d3] }
  | _ => none }
def lineAheadsRow : OpenClaim := { program := "ytokgmhicindibaa", sum := "08a30454bad944599841a2fd4a0ff57ba0b8c4c73dc48ab0efcb9f41d27a2cf8", func := "flightdeck/flightdecklaw11.LineAheads", spec := "lineAheads", inPlace := ["math/bits.Sub64"], unfollowed := true, recurses := true, named := ["math/bits.divideError", "math/bits.overflowError"], apart := false }
def LineAheadsSaid : Prop := lineAheadsRow.holds Try.pinned (OpenSpec.ofChange lineAheadsSpec)

/-- ITS FALSE NEIGHBOUR: 'it returns false'. Refute it at one input. -/
def lineAheadsWrong : ChangeSpec := { name := "lineAheads", fn := fun _ => fun
  | [d1, d2, d3] => { results := [.lit (.bool false)], args := [d1, d2, d3] }
  | _ => none }
def LineAheadsWrongFalsely : Prop := lineAheadsRow.holds Try.pinned (OpenSpec.ofChange lineAheadsWrong)

/-- 'flightdecklaw11.LineCourses': WHATEVER THE INPUT: true; the input reads as it did. -/
def lineCoursesSpec : ChangeSpec := { name := "lineCourses", fn := fun _ => fun
  | [d1, d2] => { results := [.lit (.bool true)], args := [d1, d2] }
  | _ => none }
def lineCoursesRow : OpenClaim := { program := "ytokgmhicindibaa", sum := "08a30454bad944599841a2fd4a0ff57ba0b8c4c73dc48ab0efcb9f41d27a2cf8", func := "flightdeck/flightdecklaw11.LineCourses", spec := "lineCourses", inPlace := ["math/bits.Sub64"], unfollowed := true, recurses := true, named := ["math/bits.divideError", "math/bits.overflowError"], apart := false }
def LineCoursesSaid : Prop := lineCoursesRow.holds Try.pinned (OpenSpec.ofChange lineCoursesSpec)

/-- ITS FALSE NEIGHBOUR: 'it returns false'. Refute it at one input. -/
def lineCoursesWrong : ChangeSpec := { name := "lineCourses", fn := fun _ => fun
  | [d1, d2] => { results := [.lit (.bool false)], args := [d1, d2] }
  | _ => none }
def LineCoursesWrongFalsely : Prop := lineCoursesRow.holds Try.pinned (OpenSpec.ofChange lineCoursesWrong)

/-- 'flightdecklaw11.LineTriangle': WHATEVER THE INPUT: true; the input reads as it did. -/
def lineTriangleSpec : ChangeSpec := { name := "lineTriangle", fn := fun _ => fun
  | [d1, d2, d3] => { results := [.lit (.bool true)], args := [d1, d2, d3] }
  | _ => none }
def lineTriangleRow : OpenClaim := { program := "ytokgmhicindibaa", sum := "08a30454bad944599841a2fd4a0ff57ba0b8c4c73dc48ab0efcb9f41d27a2cf8", func := "flightdeck/flightdecklaw11.LineTriangle", spec := "lineTriangle", inPlace := ["math/bits.Sub64"], unfollowed := true, recurses := true, named := ["math/bits.divideError", "math/bits.overflowError"], apart := false }
def LineTriangleSaid : Prop := lineTriangleRow.holds Try.pinned (OpenSpec.ofChange lineTriangleSpec)

/-- ITS FALSE NEIGHBOUR: 'it returns false'. Refute it at one input. -/
def lineTriangleWrong : ChangeSpec := { name := "lineTriangle", fn := fun _ => fun
  | [d1, d2, d3] => { results := [.lit (.bool false)], args := [d1, d2, d3] }
  | _ => none }
def LineTriangleWrongFalsely : Prop := lineTriangleRow.holds Try.pinned (OpenSpec.ofChange lineTriangleWrong)

/-- 'flightdecklaw11.LineOffsets': WHATEVER THE INPUT: true; the input reads as it did. -/
def lineOffsetsSpec : ChangeSpec := { name := "lineOffsets", fn := fun _ => fun
  | [d1, d2, d3] => { results := [.lit (.bool true)], args := [d1, d2, d3] }
  | _ => none }
def lineOffsetsRow : OpenClaim := { program := "ytokgmhicindibaa", sum := "08a30454bad944599841a2fd4a0ff57ba0b8c4c73dc48ab0efcb9f41d27a2cf8", func := "flightdeck/flightdecklaw11.LineOffsets", spec := "lineOffsets", inPlace := ["math/bits.Sub64"], unfollowed := true, recurses := true, named := ["math/bits.divideError", "math/bits.overflowError"], apart := false }
def LineOffsetsSaid : Prop := lineOffsetsRow.holds Try.pinned (OpenSpec.ofChange lineOffsetsSpec)

/-- ITS FALSE NEIGHBOUR: 'it returns false'. Refute it at one input. -/
def lineOffsetsWrong : ChangeSpec := { name := "lineOffsets", fn := fun _ => fun
  | [d1, d2, d3] => { results := [.lit (.bool false)], args := [d1, d2, d3] }
  | _ => none }
def LineOffsetsWrongFalsely : Prop := lineOffsetsRow.holds Try.pinned (OpenSpec.ofChange lineOffsetsWrong)

/-- 'flightdecklaw11.LineExact': WHATEVER THE INPUT: true; the input reads as it did. -/
def lineExactSpec : ChangeSpec := { name := "lineExact", fn := fun _ => fun
  | [d1, d2, d3] => { results := [.lit (.bool true)], args := [d1, d2, d3] }
  | _ => none }
def lineExactRow : OpenClaim := { program := "ytokgmhicindibaa", sum := "08a30454bad944599841a2fd4a0ff57ba0b8c4c73dc48ab0efcb9f41d27a2cf8", func := "flightdeck/flightdecklaw11.LineExact", spec := "lineExact", inPlace := ["math/bits.Sub64", "math/bits.Add64"], unfollowed := true, recurses := true, named := ["math/bits.divideError", "math/bits.overflowError"], apart := false }
def LineExactSaid : Prop := lineExactRow.holds Try.pinned (OpenSpec.ofChange lineExactSpec)

/-- ITS FALSE NEIGHBOUR: 'it returns false'. Refute it at one input. -/
def lineExactWrong : ChangeSpec := { name := "lineExact", fn := fun _ => fun
  | [d1, d2, d3] => { results := [.lit (.bool false)], args := [d1, d2, d3] }
  | _ => none }
def LineExactWrongFalsely : Prop := lineExactRow.holds Try.pinned (OpenSpec.ofChange lineExactWrong)

/-- 'flightdecklaw11.LineFeet': WHATEVER THE INPUT: true; the input reads as it did. -/
def lineFeetSpec : ChangeSpec := { name := "lineFeet", fn := fun _ => fun
  | [d1, d2, d3] => { results := [.lit (.bool true)], args := [d1, d2, d3] }
  | _ => none }
def lineFeetRow : OpenClaim := { program := "ytokgmhicindibaa", sum := "08a30454bad944599841a2fd4a0ff57ba0b8c4c73dc48ab0efcb9f41d27a2cf8", func := "flightdeck/flightdecklaw11.LineFeet", spec := "lineFeet", inPlace := ["math/bits.Sub64"], unfollowed := true, recurses := true, named := ["math/bits.divideError", "math/bits.overflowError"], apart := false }
def LineFeetSaid : Prop := lineFeetRow.holds Try.pinned (OpenSpec.ofChange lineFeetSpec)

/-- ITS FALSE NEIGHBOUR: 'it returns false'. Refute it at one input. -/
def lineFeetWrong : ChangeSpec := { name := "lineFeet", fn := fun _ => fun
  | [d1, d2, d3] => { results := [.lit (.bool false)], args := [d1, d2, d3] }
  | _ => none }
def LineFeetWrongFalsely : Prop := lineFeetRow.holds Try.pinned (OpenSpec.ofChange lineFeetWrong)

/-- 'flightdecklaw11.LineMeets': WHATEVER THE INPUT: true; the input reads as it did. -/
def lineMeetsSpec : ChangeSpec := { name := "lineMeets", fn := fun _ => fun
  | [d] => { results := [.lit (.bool true)], args := [d] }
  | _ => none }
def lineMeetsRow : OpenClaim := { program := "ytokgmhicindibaa", sum := "08a30454bad944599841a2fd4a0ff57ba0b8c4c73dc48ab0efcb9f41d27a2cf8", func := "flightdeck/flightdecklaw11.LineMeets", spec := "lineMeets", inPlace := ["math/bits.Sub64"], unfollowed := true, recurses := true, named := ["math/bits.divideError", "math/bits.overflowError"], apart := false }
def LineMeetsSaid : Prop := lineMeetsRow.holds Try.pinned (OpenSpec.ofChange lineMeetsSpec)

/-- ITS FALSE NEIGHBOUR: 'it returns false'. Refute it at one input. -/
def lineMeetsWrong : ChangeSpec := { name := "lineMeets", fn := fun _ => fun
  | [d] => { results := [.lit (.bool false)], args := [d] }
  | _ => none }
def LineMeetsWrongFalsely : Prop := lineMeetsRow.holds Try.pinned (OpenSpec.ofChange lineMeetsWrong)

/-- 'flightdecklaw11.LineRays': WHATEVER THE INPUT: true; the input reads as it did. -/
def lineRaysSpec : ChangeSpec := { name := "lineRays", fn := fun _ => fun
  | [d1, d2, d3] => { results := [.lit (.bool true)], args := [d1, d2, d3] }
  | _ => none }
def lineRaysRow : OpenClaim := { program := "ytokgmhicindibaa", sum := "08a30454bad944599841a2fd4a0ff57ba0b8c4c73dc48ab0efcb9f41d27a2cf8", func := "flightdeck/flightdecklaw11.LineRays", spec := "lineRays", inPlace := ["math/bits.Sub64"], unfollowed := true, recurses := true, named := ["math/bits.divideError", "math/bits.overflowError"], apart := false }
def LineRaysSaid : Prop := lineRaysRow.holds Try.pinned (OpenSpec.ofChange lineRaysSpec)

/-- ITS FALSE NEIGHBOUR: 'it returns false'. Refute it at one input. -/
def lineRaysWrong : ChangeSpec := { name := "lineRays", fn := fun _ => fun
  | [d1, d2, d3] => { results := [.lit (.bool false)], args := [d1, d2, d3] }
  | _ => none }
def LineRaysWrongFalsely : Prop := lineRaysRow.holds Try.pinned (OpenSpec.ofChange lineRaysWrong)

/-- 'flightdecklaw11.LinePasts': WHATEVER THE INPUT: true; the input reads as it did. -/
def linePastsSpec : ChangeSpec := { name := "linePasts", fn := fun _ => fun
  | [d] => { results := [.lit (.bool true)], args := [d] }
  | _ => none }
def linePastsRow : OpenClaim := { program := "ytokgmhicindibaa", sum := "08a30454bad944599841a2fd4a0ff57ba0b8c4c73dc48ab0efcb9f41d27a2cf8", func := "flightdeck/flightdecklaw11.LinePasts", spec := "linePasts", inPlace := ["math/bits.Sub64"], unfollowed := true, recurses := true, named := ["math/bits.divideError", "math/bits.overflowError"], apart := false }
def LinePastsSaid : Prop := linePastsRow.holds Try.pinned (OpenSpec.ofChange linePastsSpec)

/-- ITS FALSE NEIGHBOUR: 'it returns false'. Refute it at one input. -/
def linePastsWrong : ChangeSpec := { name := "linePasts", fn := fun _ => fun
  | [d] => { results := [.lit (.bool false)], args := [d] }
  | _ => none }
def LinePastsWrongFalsely : Prop := linePastsRow.holds Try.pinned (OpenSpec.ofChange linePastsWrong)

/- THE SECOND FORM. 'bulk': how many values and letters a reading holds, each counted each time it is reached (what is shared counts as often as it is met; a slice's spare places count too). A statement '..UptoSaid' is the law's where the arguments, and the package variables that the reading takes, are together of bulk at most 1048576: NARROWER than '..Said'. Prove '..Said' where nothing that the law and all that it calls make is longer than what came in: it says more and counts as full. Else prove '..UptoSaid'. A law counts once. -/
mutual
def uptoBulk {H : Type} : DataW H → Nat
  | .lit (.string bytes) => bytes.length + 1
  | .lit _ => 1
  | .nil => 1
  | .ptr d => uptoBulk d + 1
  | .slice elems spare => uptoBulkAll elems + uptoBulkAll spare + 1
  | .agg parts => uptoBulkAll parts + 1
  | .iface _ d => uptoBulk d + 1
  | .map entries => uptoBulkEntries entries + 1
  | .held _ => 1
def uptoBulkAll {H : Type} : List (DataW H) → Nat
  | [] => 0
  | d :: r => uptoBulk d + uptoBulkAll r
def uptoBulkEntries {H : Type} : List (Lit × DataW H) → Nat
  | [] => 0
  | x :: r => uptoBulkEntry x + uptoBulkEntries r
def uptoBulkEntry {H : Type} : Lit × DataW H → Nat
  | (.string bytes, d) => bytes.length + uptoBulk d + 1
  | (_, d) => uptoBulk d + 1
 end
def uptoSmall : (H : Type) → List (DataW H) → Bool := fun _ ds => decide (uptoBulkAll ds ≤ 1048576)
def OpenSpec.upto (s : _root_.Go.ChangeSpec) : _root_.Go.OpenSpec := { _root_.Go.OpenSpec.ofChange s with cond := some uptoSmall }

/-- 'flightdecklaw11.LineSides', WHERE WHAT IT READS IS OF BULK AT MOST 1048576: true; the input reads as it did. -/
def lineSidesUptoRow : OpenClaim := { program := "ytokgmhicindibaa", sum := "08a30454bad944599841a2fd4a0ff57ba0b8c4c73dc48ab0efcb9f41d27a2cf8", func := "flightdeck/flightdecklaw11.LineSides", spec := "lineSides", inPlace := ["math/bits.Sub64"], unfollowed := true, recurses := true, named := ["math/bits.divideError", "math/bits.overflowError"], apart := false, narrowed := true }
def LineSidesUptoSaid : Prop := lineSidesUptoRow.holds Try.pinned (OpenSpec.upto lineSidesSpec)

/-- 'flightdecklaw11.LineAheads', WHERE WHAT IT READS IS OF BULK AT MOST 1048576: true; the input reads as it did. -/
def lineAheadsUptoRow : OpenClaim := { program := "ytokgmhicindibaa", sum := "08a30454bad944599841a2fd4a0ff57ba0b8c4c73dc48ab0efcb9f41d27a2cf8", func := "flightdeck/flightdecklaw11.LineAheads", spec := "lineAheads", inPlace := ["math/bits.Sub64"], unfollowed := true, recurses := true, named := ["math/bits.divideError", "math/bits.overflowError"], apart := false, narrowed := true }
def LineAheadsUptoSaid : Prop := lineAheadsUptoRow.holds Try.pinned (OpenSpec.upto lineAheadsSpec)

/-- 'flightdecklaw11.LineCourses', WHERE WHAT IT READS IS OF BULK AT MOST 1048576: true; the input reads as it did. -/
def lineCoursesUptoRow : OpenClaim := { program := "ytokgmhicindibaa", sum := "08a30454bad944599841a2fd4a0ff57ba0b8c4c73dc48ab0efcb9f41d27a2cf8", func := "flightdeck/flightdecklaw11.LineCourses", spec := "lineCourses", inPlace := ["math/bits.Sub64"], unfollowed := true, recurses := true, named := ["math/bits.divideError", "math/bits.overflowError"], apart := false, narrowed := true }
def LineCoursesUptoSaid : Prop := lineCoursesUptoRow.holds Try.pinned (OpenSpec.upto lineCoursesSpec)

/-- 'flightdecklaw11.LineTriangle', WHERE WHAT IT READS IS OF BULK AT MOST 1048576: true; the input reads as it did. -/
def lineTriangleUptoRow : OpenClaim := { program := "ytokgmhicindibaa", sum := "08a30454bad944599841a2fd4a0ff57ba0b8c4c73dc48ab0efcb9f41d27a2cf8", func := "flightdeck/flightdecklaw11.LineTriangle", spec := "lineTriangle", inPlace := ["math/bits.Sub64"], unfollowed := true, recurses := true, named := ["math/bits.divideError", "math/bits.overflowError"], apart := false, narrowed := true }
def LineTriangleUptoSaid : Prop := lineTriangleUptoRow.holds Try.pinned (OpenSpec.upto lineTriangleSpec)

/-- 'flightdecklaw11.LineOffsets', WHERE WHAT IT READS IS OF BULK AT MOST 1048576: true; the input reads as it did. -/
def lineOffsetsUptoRow : OpenClaim := { program := "ytokgmhicindibaa", sum := "08a30454bad944599841a2fd4a0ff57ba0b8c4c73dc48ab0efcb9f41d27a2cf8", func := "flightdeck/flightdecklaw11.LineOffsets", spec := "lineOffsets", inPlace := ["math/bits.Sub64"], unfollowed := true, recurses := true, named := ["math/bits.divideError", "math/bits.overflowError"], apart := false, narrowed := true }
def LineOffsetsUptoSaid : Prop := lineOffsetsUptoRow.holds Try.pinned (OpenSpec.upto lineOffsetsSpec)

/-- 'flightdecklaw11.LineExact', WHERE WHAT IT READS IS OF BULK AT MOST 1048576: true; the input reads as it did. -/
def lineExactUptoRow : OpenClaim := { program := "ytokgmhicindibaa", sum := "08a30454bad944599841a2fd4a0ff57ba0b8c4c73dc48ab0efcb9f41d27a2cf8", func := "flightdeck/flightdecklaw11.LineExact", spec := "lineExact", inPlace := ["math/bits.Sub64", "math/bits.Add64"], unfollowed := true, recurses := true, named := ["math/bits.divideError", "math/bits.overflowError"], apart := false, narrowed := true }
def LineExactUptoSaid : Prop := lineExactUptoRow.holds Try.pinned (OpenSpec.upto lineExactSpec)

/-- 'flightdecklaw11.LineFeet', WHERE WHAT IT READS IS OF BULK AT MOST 1048576: true; the input reads as it did. -/
def lineFeetUptoRow : OpenClaim := { program := "ytokgmhicindibaa", sum := "08a30454bad944599841a2fd4a0ff57ba0b8c4c73dc48ab0efcb9f41d27a2cf8", func := "flightdeck/flightdecklaw11.LineFeet", spec := "lineFeet", inPlace := ["math/bits.Sub64"], unfollowed := true, recurses := true, named := ["math/bits.divideError", "math/bits.overflowError"], apart := false, narrowed := true }
def LineFeetUptoSaid : Prop := lineFeetUptoRow.holds Try.pinned (OpenSpec.upto lineFeetSpec)

/-- 'flightdecklaw11.LineMeets', WHERE WHAT IT READS IS OF BULK AT MOST 1048576: true; the input reads as it did. -/
def lineMeetsUptoRow : OpenClaim := { program := "ytokgmhicindibaa", sum := "08a30454bad944599841a2fd4a0ff57ba0b8c4c73dc48ab0efcb9f41d27a2cf8", func := "flightdeck/flightdecklaw11.LineMeets", spec := "lineMeets", inPlace := ["math/bits.Sub64"], unfollowed := true, recurses := true, named := ["math/bits.divideError", "math/bits.overflowError"], apart := false, narrowed := true }
def LineMeetsUptoSaid : Prop := lineMeetsUptoRow.holds Try.pinned (OpenSpec.upto lineMeetsSpec)

/-- 'flightdecklaw11.LineRays', WHERE WHAT IT READS IS OF BULK AT MOST 1048576: true; the input reads as it did. -/
def lineRaysUptoRow : OpenClaim := { program := "ytokgmhicindibaa", sum := "08a30454bad944599841a2fd4a0ff57ba0b8c4c73dc48ab0efcb9f41d27a2cf8", func := "flightdeck/flightdecklaw11.LineRays", spec := "lineRays", inPlace := ["math/bits.Sub64"], unfollowed := true, recurses := true, named := ["math/bits.divideError", "math/bits.overflowError"], apart := false, narrowed := true }
def LineRaysUptoSaid : Prop := lineRaysUptoRow.holds Try.pinned (OpenSpec.upto lineRaysSpec)

/-- 'flightdecklaw11.LinePasts', WHERE WHAT IT READS IS OF BULK AT MOST 1048576: true; the input reads as it did. -/
def linePastsUptoRow : OpenClaim := { program := "ytokgmhicindibaa", sum := "08a30454bad944599841a2fd4a0ff57ba0b8c4c73dc48ab0efcb9f41d27a2cf8", func := "flightdeck/flightdecklaw11.LinePasts", spec := "linePasts", inPlace := ["math/bits.Sub64"], unfollowed := true, recurses := true, named := ["math/bits.divideError", "math/bits.overflowError"], apart := false, narrowed := true }
def LinePastsUptoSaid : Prop := linePastsUptoRow.holds Try.pinned (OpenSpec.upto linePastsSpec)

end Rows
end Go.Proofs.Ytokgmhicindibaa
