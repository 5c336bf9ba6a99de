/-
  NARROWER THAN 'FOR EVERY INPUT', by the rows' own cells (each row's printed sentence says how): CrcSums: laid · CrcUpdates: laid · CrcCombines: laid · CrcLinear: laid · CrcSeals: laid · CrcOpens: laid · CrcFlips: laid · CrcBursts: laid · CrcPairs: laid · CrcStreams: laid.
  DERIVED. THE GIVEN ROWS OF THIS SEAT. 10 by the template 'for every input the law returns true; each argument reads behind the call as it read before'; 0 by the template 'total and deterministic' (their statements: YtbldklaipdbdjaaDoorTotals.lean).
  GIVEN WITH THE SEED: the statements are not yours to turn. If you find one false, say at which input.
  Laid BY PROGRAM, IN A SANDBOX (cutbox-rows.mjs): the forced cells as the released guide's own fill.sh prints them over the translation 67d47b28e4e4b5c4… (all of the seat's roots in one cut). By AI agents, Wed Nov 11 2026. No macro, syntax, notation, axiom, sorry.
-/
import Derived.Test.YtbldklaipdbdjaaDoorChecked
import GoSem.Claim
import GoSem.ClaimJoined
import GoSem.ClaimMapViews
import Derived.JoinedTies
import Derived.KernelRfl
namespace Go.Proofs.YtbldklaipdbdjaaDoor
/- THE CELL 'sum', in the pinned program and in every row, IS THE sha256 OF THE DUMP (.gsa) THAT YtbldklaipdbdjaaDoorProg.lean LOADS. Nothing in Lean hashes anything: it is a label: what it is worth is what the hold of that sum in a sandbox is worth. -/
noncomputable def Tryd.pinned : Pinned := { name := "ytbldklaipdbdjaadoor", sum := "67d47b28e4e4b5c46937a4447eaae4b8414927fc4328ff33d5ebec494758d932", checked := Tryd.checked }
namespace Rows
def none {H : Type} : Left H := { results := [], args := [] }

/- WHAT THE LISTED PACKAGE-LEVEL VARIABLES READ AS WHEN THE CALL BEGINS. Each datum BY PROGRAM (the guide's laid-datum.mjs) off the statement by which the dump's own 'gosem.cut.vars' lays the variable. In a bare row this is a premise. The card (YtbldklaipdbdjaaDoorCards.lean) ties it to the program's text. -/
def laid_flightdeck_crc_nibbles {H : Type} : DataW H := .agg [.lit (.int .u32 0), .lit (.int .u32 498536548), .lit (.int .u32 997073096), .lit (.int .u32 651767980), .lit (.int .u32 1994146192), .lit (.int .u32 1802195444), .lit (.int .u32 1303535960), .lit (.int .u32 1342533948), .lit (.int .u32 3988292384), .lit (.int .u32 4027552580), .lit (.int .u32 3604390888), .lit (.int .u32 3412177804), .lit (.int .u32 2607071920), .lit (.int .u32 2262029012), .lit (.int .u32 2685067896), .lit (.int .u32 3183342108)]

/-- 'flightdecklaw06.CrcSums': WHATEVER THE INPUT: true; the input reads as it did. -/
def crcSumsSpec : ChangeSpec := { name := "crcSums", fn := fun _ => fun
  | [d] => { results := [.lit (.bool true)], args := [d] }
  | _ => none }
def crcSumsRow : OpenClaim := { program := "ytbldklaipdbdjaadoor", sum := "67d47b28e4e4b5c46937a4447eaae4b8414927fc4328ff33d5ebec494758d932", func := "flightdeck/flightdecklaw06.CrcSums", spec := "crcSums", named := ["flightdeck/crc.nibbles"], apart := false, laid := [("flightdeck/crc.nibbles", laid_flightdeck_crc_nibbles)] }
def CrcSumsSaid : Prop := crcSumsRow.holds Tryd.pinned (OpenSpec.ofChange crcSumsSpec)

/-- ITS FALSE NEIGHBOUR: 'it returns false'. Refute it at one input. -/
def crcSumsWrong : ChangeSpec := { name := "crcSums", fn := fun _ => fun
  | [d] => { results := [.lit (.bool false)], args := [d] }
  | _ => none }
def CrcSumsWrongFalsely : Prop := crcSumsRow.holds Tryd.pinned (OpenSpec.ofChange crcSumsWrong)

/-- 'flightdecklaw06.CrcUpdates': WHATEVER THE INPUT: true; the input reads as it did. -/
def crcUpdatesSpec : ChangeSpec := { name := "crcUpdates", fn := fun _ => fun
  | [d1, d2, d3] => { results := [.lit (.bool true)], args := [d1, d2, d3] }
  | _ => none }
def crcUpdatesRow : OpenClaim := { program := "ytbldklaipdbdjaadoor", sum := "67d47b28e4e4b5c46937a4447eaae4b8414927fc4328ff33d5ebec494758d932", func := "flightdeck/flightdecklaw06.CrcUpdates", spec := "crcUpdates", named := ["flightdeck/crc.nibbles"], apart := false, laid := [("flightdeck/crc.nibbles", laid_flightdeck_crc_nibbles)] }
def CrcUpdatesSaid : Prop := crcUpdatesRow.holds Tryd.pinned (OpenSpec.ofChange crcUpdatesSpec)

/-- ITS FALSE NEIGHBOUR: 'it returns false'. Refute it at one input. -/
def crcUpdatesWrong : ChangeSpec := { name := "crcUpdates", fn := fun _ => fun
  | [d1, d2, d3] => { results := [.lit (.bool false)], args := [d1, d2, d3] }
  | _ => none }
def CrcUpdatesWrongFalsely : Prop := crcUpdatesRow.holds Tryd.pinned (OpenSpec.ofChange crcUpdatesWrong)

/-- 'flightdecklaw06.CrcCombines': WHATEVER THE INPUT: true; the input reads as it did. -/
def crcCombinesSpec : ChangeSpec := { name := "crcCombines", fn := fun _ => fun
  | [d1, d2, d3] => { results := [.lit (.bool true)], args := [d1, d2, d3] }
  | _ => none }
def crcCombinesRow : OpenClaim := { program := "ytbldklaipdbdjaadoor", sum := "67d47b28e4e4b5c46937a4447eaae4b8414927fc4328ff33d5ebec494758d932", func := "flightdeck/flightdecklaw06.CrcCombines", spec := "crcCombines", named := ["flightdeck/crc.nibbles"], apart := false, laid := [("flightdeck/crc.nibbles", laid_flightdeck_crc_nibbles)] }
def CrcCombinesSaid : Prop := crcCombinesRow.holds Tryd.pinned (OpenSpec.ofChange crcCombinesSpec)

/-- ITS FALSE NEIGHBOUR: 'it returns false'. Refute it at one input. -/
def crcCombinesWrong : ChangeSpec := { name := "crcCombines", fn := fun _ => fun
  | [d1, d2, d3] => { results := [.lit (.bool false)], args := [d1, d2, d3] }
  | _ => none }
def CrcCombinesWrongFalsely : Prop := crcCombinesRow.holds Tryd.pinned (OpenSpec.ofChange crcCombinesWrong)

/-- 'flightdecklaw06.CrcLinear': WHATEVER THE INPUT: true; the input reads as it did. -/
def crcLinearSpec : ChangeSpec := { name := "crcLinear", fn := fun _ => fun
  | [d1, d2, d3] => { results := [.lit (.bool true)], args := [d1, d2, d3] }
  | _ => none }
def crcLinearRow : OpenClaim := { program := "ytbldklaipdbdjaadoor", sum := "67d47b28e4e4b5c46937a4447eaae4b8414927fc4328ff33d5ebec494758d932", func := "flightdeck/flightdecklaw06.CrcLinear", spec := "crcLinear", named := ["flightdeck/crc.nibbles"], apart := false, laid := [("flightdeck/crc.nibbles", laid_flightdeck_crc_nibbles)] }
def CrcLinearSaid : Prop := crcLinearRow.holds Tryd.pinned (OpenSpec.ofChange crcLinearSpec)

/-- ITS FALSE NEIGHBOUR: 'it returns false'. Refute it at one input. -/
def crcLinearWrong : ChangeSpec := { name := "crcLinear", fn := fun _ => fun
  | [d1, d2, d3] => { results := [.lit (.bool false)], args := [d1, d2, d3] }
  | _ => none }
def CrcLinearWrongFalsely : Prop := crcLinearRow.holds Tryd.pinned (OpenSpec.ofChange crcLinearWrong)

/-- 'flightdecklaw06.CrcSeals': WHATEVER THE INPUT: true; the input reads as it did. -/
def crcSealsSpec : ChangeSpec := { name := "crcSeals", fn := fun _ => fun
  | [d] => { results := [.lit (.bool true)], args := [d] }
  | _ => none }
def crcSealsRow : OpenClaim := { program := "ytbldklaipdbdjaadoor", sum := "67d47b28e4e4b5c46937a4447eaae4b8414927fc4328ff33d5ebec494758d932", func := "flightdeck/flightdecklaw06.CrcSeals", spec := "crcSeals", named := ["flightdeck/crc.nibbles"], apart := false, laid := [("flightdeck/crc.nibbles", laid_flightdeck_crc_nibbles)] }
def CrcSealsSaid : Prop := crcSealsRow.holds Tryd.pinned (OpenSpec.ofChange crcSealsSpec)

/-- ITS FALSE NEIGHBOUR: 'it returns false'. Refute it at one input. -/
def crcSealsWrong : ChangeSpec := { name := "crcSeals", fn := fun _ => fun
  | [d] => { results := [.lit (.bool false)], args := [d] }
  | _ => none }
def CrcSealsWrongFalsely : Prop := crcSealsRow.holds Tryd.pinned (OpenSpec.ofChange crcSealsWrong)

/-- 'flightdecklaw06.CrcOpens': WHATEVER THE INPUT: true; the input reads as it did. -/
def crcOpensSpec : ChangeSpec := { name := "crcOpens", fn := fun _ => fun
  | [d] => { results := [.lit (.bool true)], args := [d] }
  | _ => none }
def crcOpensRow : OpenClaim := { program := "ytbldklaipdbdjaadoor", sum := "67d47b28e4e4b5c46937a4447eaae4b8414927fc4328ff33d5ebec494758d932", func := "flightdeck/flightdecklaw06.CrcOpens", spec := "crcOpens", named := ["flightdeck/crc.nibbles"], apart := false, laid := [("flightdeck/crc.nibbles", laid_flightdeck_crc_nibbles)] }
def CrcOpensSaid : Prop := crcOpensRow.holds Tryd.pinned (OpenSpec.ofChange crcOpensSpec)

/-- ITS FALSE NEIGHBOUR: 'it returns false'. Refute it at one input. -/
def crcOpensWrong : ChangeSpec := { name := "crcOpens", fn := fun _ => fun
  | [d] => { results := [.lit (.bool false)], args := [d] }
  | _ => none }
def CrcOpensWrongFalsely : Prop := crcOpensRow.holds Tryd.pinned (OpenSpec.ofChange crcOpensWrong)

/-- 'flightdecklaw06.CrcFlips': WHATEVER THE INPUT: true; the input reads as it did. -/
def crcFlipsSpec : ChangeSpec := { name := "crcFlips", fn := fun _ => fun
  | [d1, d2, d3] => { results := [.lit (.bool true)], args := [d1, d2, d3] }
  | _ => none }
def crcFlipsRow : OpenClaim := { program := "ytbldklaipdbdjaadoor", sum := "67d47b28e4e4b5c46937a4447eaae4b8414927fc4328ff33d5ebec494758d932", func := "flightdeck/flightdecklaw06.CrcFlips", spec := "crcFlips", named := ["flightdeck/crc.nibbles"], apart := false, laid := [("flightdeck/crc.nibbles", laid_flightdeck_crc_nibbles)] }
def CrcFlipsSaid : Prop := crcFlipsRow.holds Tryd.pinned (OpenSpec.ofChange crcFlipsSpec)

/-- ITS FALSE NEIGHBOUR: 'it returns false'. Refute it at one input. -/
def crcFlipsWrong : ChangeSpec := { name := "crcFlips", fn := fun _ => fun
  | [d1, d2, d3] => { results := [.lit (.bool false)], args := [d1, d2, d3] }
  | _ => none }
def CrcFlipsWrongFalsely : Prop := crcFlipsRow.holds Tryd.pinned (OpenSpec.ofChange crcFlipsWrong)

/-- 'flightdecklaw06.CrcBursts': WHATEVER THE INPUT: true; the input reads as it did. -/
def crcBurstsSpec : ChangeSpec := { name := "crcBursts", fn := fun _ => fun
  | [d1, d2, d3] => { results := [.lit (.bool true)], args := [d1, d2, d3] }
  | _ => none }
def crcBurstsRow : OpenClaim := { program := "ytbldklaipdbdjaadoor", sum := "67d47b28e4e4b5c46937a4447eaae4b8414927fc4328ff33d5ebec494758d932", func := "flightdeck/flightdecklaw06.CrcBursts", spec := "crcBursts", named := ["flightdeck/crc.nibbles"], apart := false, laid := [("flightdeck/crc.nibbles", laid_flightdeck_crc_nibbles)] }
def CrcBurstsSaid : Prop := crcBurstsRow.holds Tryd.pinned (OpenSpec.ofChange crcBurstsSpec)

/-- ITS FALSE NEIGHBOUR: 'it returns false'. Refute it at one input. -/
def crcBurstsWrong : ChangeSpec := { name := "crcBursts", fn := fun _ => fun
  | [d1, d2, d3] => { results := [.lit (.bool false)], args := [d1, d2, d3] }
  | _ => none }
def CrcBurstsWrongFalsely : Prop := crcBurstsRow.holds Tryd.pinned (OpenSpec.ofChange crcBurstsWrong)

/-- 'flightdecklaw06.CrcPairs': WHATEVER THE INPUT: true; the input reads as it did. -/
def crcPairsSpec : ChangeSpec := { name := "crcPairs", fn := fun _ => fun
  | [d1, d2, d3] => { results := [.lit (.bool true)], args := [d1, d2, d3] }
  | _ => none }
def crcPairsRow : OpenClaim := { program := "ytbldklaipdbdjaadoor", sum := "67d47b28e4e4b5c46937a4447eaae4b8414927fc4328ff33d5ebec494758d932", func := "flightdeck/flightdecklaw06.CrcPairs", spec := "crcPairs", named := ["flightdeck/crc.nibbles"], apart := false, laid := [("flightdeck/crc.nibbles", laid_flightdeck_crc_nibbles)] }
def CrcPairsSaid : Prop := crcPairsRow.holds Tryd.pinned (OpenSpec.ofChange crcPairsSpec)

/-- ITS FALSE NEIGHBOUR: 'it returns false'. Refute it at one input. -/
def crcPairsWrong : ChangeSpec := { name := "crcPairs", fn := fun _ => fun
  | [d1, d2, d3] => { results := [.lit (.bool false)], args := [d1, d2, d3] }
  | _ => none }
def CrcPairsWrongFalsely : Prop := crcPairsRow.holds Tryd.pinned (OpenSpec.ofChange crcPairsWrong)

/-- 'flightdecklaw06.CrcStreams': WHATEVER THE INPUT: true; the input reads as it did. -/
def crcStreamsSpec : ChangeSpec := { name := "crcStreams", fn := fun _ => fun
  | [d1, d2] => { results := [.lit (.bool true)], args := [d1, d2] }
  | _ => none }
def crcStreamsRow : OpenClaim := { program := "ytbldklaipdbdjaadoor", sum := "67d47b28e4e4b5c46937a4447eaae4b8414927fc4328ff33d5ebec494758d932", func := "flightdeck/flightdecklaw06.CrcStreams", spec := "crcStreams", named := ["flightdeck/crc.nibbles"], apart := false, laid := [("flightdeck/crc.nibbles", laid_flightdeck_crc_nibbles)] }
def CrcStreamsSaid : Prop := crcStreamsRow.holds Tryd.pinned (OpenSpec.ofChange crcStreamsSpec)

/-- ITS FALSE NEIGHBOUR: 'it returns false'. Refute it at one input. -/
def crcStreamsWrong : ChangeSpec := { name := "crcStreams", fn := fun _ => fun
  | [d1, d2] => { results := [.lit (.bool false)], args := [d1, d2] }
  | _ => none }
def CrcStreamsWrongFalsely : Prop := crcStreamsRow.holds Tryd.pinned (OpenSpec.ofChange crcStreamsWrong)

/- THE SECOND FORM. 'bulk': how many values and letters a reading holds, each counted each time it is reached (what is shared counts as often as it is met; a slice's spare places count too). A statement '..UptoSaid' is the law's where the arguments, and the package variables that the reading takes, are together of bulk at most 1048576: NARROWER than '..Said'. Prove '..Said' where nothing that the law and all that it calls make is longer than what came in: it says more and counts as full. Else prove '..UptoSaid'. A law counts once. -/
mutual
def uptoBulk {H : Type} : DataW H → Nat
  | .lit (.string bytes) => bytes.length + 1
  | .lit _ => 1
  | .nil => 1
  | .ptr d => uptoBulk d + 1
  | .slice elems spare => uptoBulkAll elems + uptoBulkAll spare + 1
  | .agg parts => uptoBulkAll parts + 1
  | .iface _ d => uptoBulk d + 1
  | .map entries => uptoBulkEntries entries + 1
  | .held _ => 1
def uptoBulkAll {H : Type} : List (DataW H) → Nat
  | [] => 0
  | d :: r => uptoBulk d + uptoBulkAll r
def uptoBulkEntries {H : Type} : List (Lit × DataW H) → Nat
  | [] => 0
  | x :: r => uptoBulkEntry x + uptoBulkEntries r
def uptoBulkEntry {H : Type} : Lit × DataW H → Nat
  | (.string bytes, d) => bytes.length + uptoBulk d + 1
  | (_, d) => uptoBulk d + 1
 end
def uptoSmall : (H : Type) → List (DataW H) → Bool := fun _ ds => decide (uptoBulkAll ds ≤ 1048576)
def OpenSpec.upto (s : _root_.Go.ChangeSpec) : _root_.Go.OpenSpec := { _root_.Go.OpenSpec.ofChange s with cond := some uptoSmall }

/-- 'flightdecklaw06.CrcSums', WHERE WHAT IT READS IS OF BULK AT MOST 1048576: true; the input reads as it did. -/
def crcSumsUptoRow : OpenClaim := { program := "ytbldklaipdbdjaadoor", sum := "67d47b28e4e4b5c46937a4447eaae4b8414927fc4328ff33d5ebec494758d932", func := "flightdeck/flightdecklaw06.CrcSums", spec := "crcSums", named := ["flightdeck/crc.nibbles"], apart := false, laid := [("flightdeck/crc.nibbles", laid_flightdeck_crc_nibbles)], narrowed := true }
def CrcSumsUptoSaid : Prop := crcSumsUptoRow.holds Tryd.pinned (OpenSpec.upto crcSumsSpec)

/-- 'flightdecklaw06.CrcUpdates', WHERE WHAT IT READS IS OF BULK AT MOST 1048576: true; the input reads as it did. -/
def crcUpdatesUptoRow : OpenClaim := { program := "ytbldklaipdbdjaadoor", sum := "67d47b28e4e4b5c46937a4447eaae4b8414927fc4328ff33d5ebec494758d932", func := "flightdeck/flightdecklaw06.CrcUpdates", spec := "crcUpdates", named := ["flightdeck/crc.nibbles"], apart := false, laid := [("flightdeck/crc.nibbles", laid_flightdeck_crc_nibbles)], narrowed := true }
def CrcUpdatesUptoSaid : Prop := crcUpdatesUptoRow.holds Tryd.pinned (OpenSpec.upto crcUpdatesSpec)

/-- 'flightdecklaw06.CrcCombines', WHERE WHAT IT READS IS OF BULK AT MOST 1048576: true; the input reads as it did. -/
def crcCombinesUptoRow : OpenClaim := { program := "ytbldklaipdbdjaadoor", sum := "67d47b28e4e4b5c46937a4447eaae4b8414927fc4328ff33d5ebec494758d932", func := "flightdeck/flightdecklaw06.CrcCombines", spec := "crcCombines", named := ["flightdeck/crc.nibbles"], apart := false, laid := [("flightdeck/crc.nibbles", laid_flightdeck_crc_nibbles)], narrowed := true }
def CrcCombinesUptoSaid : Prop := crcCombinesUptoRow.holds Tryd.pinned (OpenSpec.upto crcCombinesSpec)

/-- 'flightdecklaw06.CrcLinear', WHERE WHAT IT READS IS OF BULK AT MOST 1048576: true; the input reads as it did. -/
def crcLinearUptoRow : OpenClaim := { program := "ytbldklaipdbdjaadoor", sum := "67d47b28e4e4b5c46937a4447eaae4b8414927fc4328ff33d5ebec494758d932", func := "flightdeck/flightdecklaw06.CrcLinear", spec := "crcLinear", named := ["flightdeck/crc.nibbles"], apart := false, laid := [("flightdeck/crc.nibbles", laid_flightdeck_crc_nibbles)], narrowed := true }
def CrcLinearUptoSaid : Prop := crcLinearUptoRow.holds Tryd.pinned (OpenSpec.upto crcLinearSpec)

/-- 'flightdecklaw06.CrcSeals', WHERE WHAT IT READS IS OF BULK AT MOST 1048576: true; the input reads as it did. -/
def crcSealsUptoRow : OpenClaim := { program := "ytbldklaipdbdjaadoor", sum := "67d47b28e4e4b5c46937a4447eaae4b8414927fc4328ff33d5ebec494758d932", func := "flightdeck/flightdecklaw06.CrcSeals", spec := "crcSeals", named := ["flightdeck/crc.nibbles"], apart := false, laid := [("flightdeck/crc.nibbles", laid_flightdeck_crc_nibbles)], narrowed := true }
def CrcSealsUptoSaid : Prop := crcSealsUptoRow.holds Tryd.pinned (OpenSpec.upto crcSealsSpec)

/-- 'flightdecklaw06.CrcOpens', WHERE WHAT IT READS IS OF BULK AT MOST 1048576: true; the input reads as it did. -/
def crcOpensUptoRow : OpenClaim := { program := "ytbldklaipdbdjaadoor", sum := "67d47b28e4e4b5c46937a4447eaae4b8414927fc4328ff33d5ebec494758d932", func := "flightdeck/flightdecklaw06.CrcOpens", spec := "crcOpens", named := ["flightdeck/crc.nibbles"], apart := false, laid := [("flightdeck/crc.nibbles", laid_flightdeck_crc_nibbles)], narrowed := true }
def CrcOpensUptoSaid : Prop := crcOpensUptoRow.holds Tryd.pinned (OpenSpec.upto crcOpensSpec)

/-- 'flightdecklaw06.CrcFlips', WHERE WHAT IT READS IS OF BULK AT MOST 1048576: true; the input reads as it did. -/
def crcFlipsUptoRow : OpenClaim := { program := "ytbldklaipdbdjaadoor", sum := "67d47b28e4e4b5c46937a4447eaae4b8414927fc4328ff33d5ebec494758d932", func := "flightdeck/flightdecklaw06.CrcFlips", spec := "crcFlips", named := ["flightdeck/crc.nibbles"], apart := false, laid := [("flightdeck/crc.nibbles", laid_flightdeck_crc_nibbles)], narrowed := true }
def CrcFlipsUptoSaid : Prop := crcFlipsUptoRow.holds Tryd.pinned (OpenSpec.upto crcFlipsSpec)

/-- 'flightdecklaw06.CrcBursts', WHERE WHAT IT READS IS OF BULK AT MOST 1048576: true; the input reads as it did. -/
def crcBurstsUptoRow : OpenClaim := { program := "ytbldklaipdbdjaadoor", sum := "67d47b28e4e4b5c46937a4447eaae4b8414927fc4328ff33d5ebec494758d932", func := "flightdeck/flightdecklaw06.CrcBursts", spec := "crcBursts", named := ["flightdeck/crc.nibbles"], apart := false, laid := [("flightdeck/crc.nibbles", laid_flightdeck_crc_nibbles)], narrowed := true }
def CrcBurstsUptoSaid : Prop := crcBurstsUptoRow.holds Tryd.pinned (OpenSpec.upto crcBurstsSpec)

/-- 'flightdecklaw06.CrcPairs', WHERE WHAT IT READS IS OF BULK AT MOST 1048576: true; the input reads as it did. -/
def crcPairsUptoRow : OpenClaim := { program := "ytbldklaipdbdjaadoor", sum := "67d47b28e4e4b5c46937a4447eaae4b8414927fc4328ff33d5ebec494758d932", func := "flightdeck/flightdecklaw06.CrcPairs", spec := "crcPairs", named := ["flightdeck/crc.nibbles"], apart := false, laid := [("flightdeck/crc.nibbles", laid_flightdeck_crc_nibbles)], narrowed := true }
def CrcPairsUptoSaid : Prop := crcPairsUptoRow.holds Tryd.pinned (OpenSpec.upto crcPairsSpec)

/-- 'flightdecklaw06.CrcStreams', WHERE WHAT IT READS IS OF BULK AT MOST 1048576: true; the input reads as it did. -/
def crcStreamsUptoRow : OpenClaim := { program := "ytbldklaipdbdjaadoor", sum := "67d47b28e4e4b5c46937a4447eaae4b8414927fc4328ff33d5ebec494758d932", func := "flightdeck/flightdecklaw06.CrcStreams", spec := "crcStreams", named := ["flightdeck/crc.nibbles"], apart := false, laid := [("flightdeck/crc.nibbles", laid_flightdeck_crc_nibbles)], narrowed := true }
def CrcStreamsUptoSaid : Prop := crcStreamsUptoRow.holds Tryd.pinned (OpenSpec.upto crcStreamsSpec)

end Rows
end Go.Proofs.YtbldklaipdbdjaaDoor
