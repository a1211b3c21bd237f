/-
  No cell of these rows narrows 'for every input' (looked for: loops, veiled, ifaces, maps, wideKeys, modest, calm, conditions, laid).
  DERIVED. THE GIVEN ROWS OF THIS SEAT. 12 by the template 'for every input the law returns true; each argument reads behind the call as it read before'; 0 by the template 'total and deterministic' (their statements: YtknimlpdpgpliaaTotals.lean).
  GIVEN WITH THE SEED: the statements are not yours to turn. If you find one false, say at which input.
  Laid BY PROGRAM, IN A SANDBOX (cutbox-rows.mjs): the forced cells as the released guide's own fill.sh prints them over the translation 92cc730fc74ba8c8… (all of the seat's roots in one cut). By AI agents, Wed Nov 11 2026. No macro, syntax, notation, axiom, sorry.
-/
import Derived.Test.YtknimlpdpgpliaaChecked
import GoSem.Claim
import GoSem.ClaimJoined
import GoSem.ClaimMapViews
import Derived.JoinedTies
import Derived.KernelRfl
namespace Go.Proofs.Ytknimlpdpgpliaa
/- THE CELL 'sum', in the pinned program and in every row, IS THE sha256 OF THE DUMP (.gsa) THAT YtknimlpdpgpliaaProg.lean LOADS. Nothing in Lean hashes anything: it is a label: what it is worth is what the hold of that sum in a sandbox is worth. -/
noncomputable def Try.pinned : Pinned := { name := "ytknimlpdpgpliaa", sum := "92cc730fc74ba8c8b8cec1ad2c8c7d1364a16a3bd06ecf93b184a8dd40c50bfb", checked := Try.checked }
namespace Rows
def none {H : Type} : Left H := { results := [], args := [] }

/-- 'netcalculuslaw05.PointwiseTotals': WHATEVER THE INPUT: true; the input reads as it did. -/
def pointwiseTotalsSpec : ChangeSpec := { name := "pointwiseTotals", fn := fun _ => fun
  | [d] => { results := [.lit (.bool true)], args := [d] }
  | _ => none }
def pointwiseTotalsRow : OpenClaim := { program := "ytknimlpdpgpliaa", sum := "92cc730fc74ba8c8b8cec1ad2c8c7d1364a16a3bd06ecf93b184a8dd40c50bfb", func := "netcalculus/netcalculuslaw05.PointwiseTotals", spec := "pointwiseTotals", unfollowed := true, recurses := true, apart := false }
def PointwiseTotalsSaid : Prop := pointwiseTotalsRow.holds Try.pinned (OpenSpec.ofChange pointwiseTotalsSpec)

/-- ITS FALSE NEIGHBOUR: 'it returns false'. Refute it at one input. -/
def pointwiseTotalsWrong : ChangeSpec := { name := "pointwiseTotals", fn := fun _ => fun
  | [d] => { results := [.lit (.bool false)], args := [d] }
  | _ => none }
def PointwiseTotalsWrongFalsely : Prop := pointwiseTotalsRow.holds Try.pinned (OpenSpec.ofChange pointwiseTotalsWrong)

/-- 'netcalculuslaw06.RemainderValues': WHATEVER THE INPUT: true; the input reads as it did. -/
def remainderValuesSpec : ChangeSpec := { name := "remainderValues", fn := fun _ => fun
  | [d1, d2] => { results := [.lit (.bool true)], args := [d1, d2] }
  | _ => none }
def remainderValuesRow : OpenClaim := { program := "ytknimlpdpgpliaa", sum := "92cc730fc74ba8c8b8cec1ad2c8c7d1364a16a3bd06ecf93b184a8dd40c50bfb", func := "netcalculus/netcalculuslaw06.RemainderValues", spec := "remainderValues", unfollowed := true, recurses := true, apart := false }
def RemainderValuesSaid : Prop := remainderValuesRow.holds Try.pinned (OpenSpec.ofChange remainderValuesSpec)

/-- ITS FALSE NEIGHBOUR: 'it returns false'. Refute it at one input. -/
def remainderValuesWrong : ChangeSpec := { name := "remainderValues", fn := fun _ => fun
  | [d1, d2] => { results := [.lit (.bool false)], args := [d1, d2] }
  | _ => none }
def RemainderValuesWrongFalsely : Prop := remainderValuesRow.holds Try.pinned (OpenSpec.ofChange remainderValuesWrong)

/-- 'netcalculuslaw06.RemainderBetween': WHATEVER THE INPUT: true; the input reads as it did. -/
def remainderBetweenSpec : ChangeSpec := { name := "remainderBetween", fn := fun _ => fun
  | [d1, d2] => { results := [.lit (.bool true)], args := [d1, d2] }
  | _ => none }
def remainderBetweenRow : OpenClaim := { program := "ytknimlpdpgpliaa", sum := "92cc730fc74ba8c8b8cec1ad2c8c7d1364a16a3bd06ecf93b184a8dd40c50bfb", func := "netcalculus/netcalculuslaw06.RemainderBetween", spec := "remainderBetween", unfollowed := true, recurses := true, apart := false }
def RemainderBetweenSaid : Prop := remainderBetweenRow.holds Try.pinned (OpenSpec.ofChange remainderBetweenSpec)

/-- ITS FALSE NEIGHBOUR: 'it returns false'. Refute it at one input. -/
def remainderBetweenWrong : ChangeSpec := { name := "remainderBetween", fn := fun _ => fun
  | [d1, d2] => { results := [.lit (.bool false)], args := [d1, d2] }
  | _ => none }
def RemainderBetweenWrongFalsely : Prop := remainderBetweenRow.holds Try.pinned (OpenSpec.ofChange remainderBetweenWrong)

/-- 'netcalculuslaw06.RemainderMonotone': WHATEVER THE INPUT: true; the input reads as it did. -/
def remainderMonotoneSpec : ChangeSpec := { name := "remainderMonotone", fn := fun _ => fun
  | [d] => { results := [.lit (.bool true)], args := [d] }
  | _ => none }
def remainderMonotoneRow : OpenClaim := { program := "ytknimlpdpgpliaa", sum := "92cc730fc74ba8c8b8cec1ad2c8c7d1364a16a3bd06ecf93b184a8dd40c50bfb", func := "netcalculus/netcalculuslaw06.RemainderMonotone", spec := "remainderMonotone", unfollowed := true, recurses := true, apart := false }
def RemainderMonotoneSaid : Prop := remainderMonotoneRow.holds Try.pinned (OpenSpec.ofChange remainderMonotoneSpec)

/-- ITS FALSE NEIGHBOUR: 'it returns false'. Refute it at one input. -/
def remainderMonotoneWrong : ChangeSpec := { name := "remainderMonotone", fn := fun _ => fun
  | [d] => { results := [.lit (.bool false)], args := [d] }
  | _ => none }
def RemainderMonotoneWrongFalsely : Prop := remainderMonotoneRow.holds Try.pinned (OpenSpec.ofChange remainderMonotoneWrong)

/-- 'netcalculuslaw13.TraceAnswers': WHATEVER THE INPUT: true; the input reads as it did. -/
def traceAnswersSpec : ChangeSpec := { name := "traceAnswers", fn := fun _ => fun
  | [d1, d2, d3, d4, d5] => { results := [.lit (.bool true)], args := [d1, d2, d3, d4, d5] }
  | _ => none }
def traceAnswersRow : OpenClaim := { program := "ytknimlpdpgpliaa", sum := "92cc730fc74ba8c8b8cec1ad2c8c7d1364a16a3bd06ecf93b184a8dd40c50bfb", func := "netcalculus/netcalculuslaw13.TraceAnswers", spec := "traceAnswers", unfollowed := true, recurses := true, apart := false }
def TraceAnswersSaid : Prop := traceAnswersRow.holds Try.pinned (OpenSpec.ofChange traceAnswersSpec)

/-- ITS FALSE NEIGHBOUR: 'it returns false'. Refute it at one input. -/
def traceAnswersWrong : ChangeSpec := { name := "traceAnswers", fn := fun _ => fun
  | [d1, d2, d3, d4, d5] => { results := [.lit (.bool false)], args := [d1, d2, d3, d4, d5] }
  | _ => none }
def TraceAnswersWrongFalsely : Prop := traceAnswersRow.holds Try.pinned (OpenSpec.ofChange traceAnswersWrong)

/-- 'netcalculuslaw14.ConformAnswers': WHATEVER THE INPUT: true; the input reads as it did. -/
def conformAnswersSpec : ChangeSpec := { name := "conformAnswers", fn := fun _ => fun
  | [d1, d2, d3, d4, d5] => { results := [.lit (.bool true)], args := [d1, d2, d3, d4, d5] }
  | _ => none }
def conformAnswersRow : OpenClaim := { program := "ytknimlpdpgpliaa", sum := "92cc730fc74ba8c8b8cec1ad2c8c7d1364a16a3bd06ecf93b184a8dd40c50bfb", func := "netcalculus/netcalculuslaw14.ConformAnswers", spec := "conformAnswers", unfollowed := true, recurses := true, apart := false }
def ConformAnswersSaid : Prop := conformAnswersRow.holds Try.pinned (OpenSpec.ofChange conformAnswersSpec)

/-- ITS FALSE NEIGHBOUR: 'it returns false'. Refute it at one input. -/
def conformAnswersWrong : ChangeSpec := { name := "conformAnswers", fn := fun _ => fun
  | [d1, d2, d3, d4, d5] => { results := [.lit (.bool false)], args := [d1, d2, d3, d4, d5] }
  | _ => none }
def ConformAnswersWrongFalsely : Prop := conformAnswersRow.holds Try.pinned (OpenSpec.ofChange conformAnswersWrong)

/-- 'netcalculuslaw14.ConformLeast': WHATEVER THE INPUT: true; the input reads as it did. -/
def conformLeastSpec : ChangeSpec := { name := "conformLeast", fn := fun _ => fun
  | [d] => { results := [.lit (.bool true)], args := [d] }
  | _ => none }
def conformLeastRow : OpenClaim := { program := "ytknimlpdpgpliaa", sum := "92cc730fc74ba8c8b8cec1ad2c8c7d1364a16a3bd06ecf93b184a8dd40c50bfb", func := "netcalculus/netcalculuslaw14.ConformLeast", spec := "conformLeast", unfollowed := true, recurses := true, apart := false }
def ConformLeastSaid : Prop := conformLeastRow.holds Try.pinned (OpenSpec.ofChange conformLeastSpec)

/-- ITS FALSE NEIGHBOUR: 'it returns false'. Refute it at one input. -/
def conformLeastWrong : ChangeSpec := { name := "conformLeast", fn := fun _ => fun
  | [d] => { results := [.lit (.bool false)], args := [d] }
  | _ => none }
def ConformLeastWrongFalsely : Prop := conformLeastRow.holds Try.pinned (OpenSpec.ofChange conformLeastWrong)

/-- 'netcalculuslaw14.ConformPolices': WHATEVER THE INPUT: true; the input reads as it did. -/
def conformPolicesSpec : ChangeSpec := { name := "conformPolices", fn := fun _ => fun
  | [d] => { results := [.lit (.bool true)], args := [d] }
  | _ => none }
def conformPolicesRow : OpenClaim := { program := "ytknimlpdpgpliaa", sum := "92cc730fc74ba8c8b8cec1ad2c8c7d1364a16a3bd06ecf93b184a8dd40c50bfb", func := "netcalculus/netcalculuslaw14.ConformPolices", spec := "conformPolices", unfollowed := true, recurses := true, apart := false }
def ConformPolicesSaid : Prop := conformPolicesRow.holds Try.pinned (OpenSpec.ofChange conformPolicesSpec)

/-- ITS FALSE NEIGHBOUR: 'it returns false'. Refute it at one input. -/
def conformPolicesWrong : ChangeSpec := { name := "conformPolices", fn := fun _ => fun
  | [d] => { results := [.lit (.bool false)], args := [d] }
  | _ => none }
def ConformPolicesWrongFalsely : Prop := conformPolicesRow.holds Try.pinned (OpenSpec.ofChange conformPolicesWrong)

/-- 'netcalculuslaw14.ConformShapes': WHATEVER THE INPUT: true; the input reads as it did. -/
def conformShapesSpec : ChangeSpec := { name := "conformShapes", fn := fun _ => fun
  | [d] => { results := [.lit (.bool true)], args := [d] }
  | _ => none }
def conformShapesRow : OpenClaim := { program := "ytknimlpdpgpliaa", sum := "92cc730fc74ba8c8b8cec1ad2c8c7d1364a16a3bd06ecf93b184a8dd40c50bfb", func := "netcalculus/netcalculuslaw14.ConformShapes", spec := "conformShapes", unfollowed := true, recurses := true, apart := false }
def ConformShapesSaid : Prop := conformShapesRow.holds Try.pinned (OpenSpec.ofChange conformShapesSpec)

/-- ITS FALSE NEIGHBOUR: 'it returns false'. Refute it at one input. -/
def conformShapesWrong : ChangeSpec := { name := "conformShapes", fn := fun _ => fun
  | [d] => { results := [.lit (.bool false)], args := [d] }
  | _ => none }
def ConformShapesWrongFalsely : Prop := conformShapesRow.holds Try.pinned (OpenSpec.ofChange conformShapesWrong)

/-- 'netcalculuslaw14.ConformGreedy': WHATEVER THE INPUT: true; the input reads as it did. -/
def conformGreedySpec : ChangeSpec := { name := "conformGreedy", fn := fun _ => fun
  | [d] => { results := [.lit (.bool true)], args := [d] }
  | _ => none }
def conformGreedyRow : OpenClaim := { program := "ytknimlpdpgpliaa", sum := "92cc730fc74ba8c8b8cec1ad2c8c7d1364a16a3bd06ecf93b184a8dd40c50bfb", func := "netcalculus/netcalculuslaw14.ConformGreedy", spec := "conformGreedy", unfollowed := true, recurses := true, apart := false }
def ConformGreedySaid : Prop := conformGreedyRow.holds Try.pinned (OpenSpec.ofChange conformGreedySpec)

/-- ITS FALSE NEIGHBOUR: 'it returns false'. Refute it at one input. -/
def conformGreedyWrong : ChangeSpec := { name := "conformGreedy", fn := fun _ => fun
  | [d] => { results := [.lit (.bool false)], args := [d] }
  | _ => none }
def ConformGreedyWrongFalsely : Prop := conformGreedyRow.holds Try.pinned (OpenSpec.ofChange conformGreedyWrong)

/-- 'netcalculuslaw14.ConformSums': WHATEVER THE INPUT: true; the input reads as it did. -/
def conformSumsSpec : ChangeSpec := { name := "conformSums", fn := fun _ => fun
  | [d] => { results := [.lit (.bool true)], args := [d] }
  | _ => none }
def conformSumsRow : OpenClaim := { program := "ytknimlpdpgpliaa", sum := "92cc730fc74ba8c8b8cec1ad2c8c7d1364a16a3bd06ecf93b184a8dd40c50bfb", func := "netcalculus/netcalculuslaw14.ConformSums", spec := "conformSums", unfollowed := true, recurses := true, apart := false }
def ConformSumsSaid : Prop := conformSumsRow.holds Try.pinned (OpenSpec.ofChange conformSumsSpec)

/-- ITS FALSE NEIGHBOUR: 'it returns false'. Refute it at one input. -/
def conformSumsWrong : ChangeSpec := { name := "conformSums", fn := fun _ => fun
  | [d] => { results := [.lit (.bool false)], args := [d] }
  | _ => none }
def ConformSumsWrongFalsely : Prop := conformSumsRow.holds Try.pinned (OpenSpec.ofChange conformSumsWrong)

/-- 'netcalculuslaw14.ConformMoves': WHATEVER THE INPUT: true; the input reads as it did. -/
def conformMovesSpec : ChangeSpec := { name := "conformMoves", fn := fun _ => fun
  | [d] => { results := [.lit (.bool true)], args := [d] }
  | _ => none }
def conformMovesRow : OpenClaim := { program := "ytknimlpdpgpliaa", sum := "92cc730fc74ba8c8b8cec1ad2c8c7d1364a16a3bd06ecf93b184a8dd40c50bfb", func := "netcalculus/netcalculuslaw14.ConformMoves", spec := "conformMoves", unfollowed := true, recurses := true, apart := false }
def ConformMovesSaid : Prop := conformMovesRow.holds Try.pinned (OpenSpec.ofChange conformMovesSpec)

/-- ITS FALSE NEIGHBOUR: 'it returns false'. Refute it at one input. -/
def conformMovesWrong : ChangeSpec := { name := "conformMoves", fn := fun _ => fun
  | [d] => { results := [.lit (.bool false)], args := [d] }
  | _ => none }
def ConformMovesWrongFalsely : Prop := conformMovesRow.holds Try.pinned (OpenSpec.ofChange conformMovesWrong)

/- THE SECOND FORM. 'bulk': how many values and letters a reading holds, each counted each time it is reached (what is shared counts as often as it is met; a slice's spare places count too). A statement '..UptoSaid' is the law's where the arguments, and the package variables that the reading takes, are together of bulk at most 1048576: NARROWER than '..Said'. Prove '..Said' where nothing that the law and all that it calls make is longer than what came in: it says more and counts as full. Else prove '..UptoSaid'. A law counts once. -/
mutual
def uptoBulk {H : Type} : DataW H → Nat
  | .lit (.string bytes) => bytes.length + 1
  | .lit _ => 1
  | .nil => 1
  | .ptr d => uptoBulk d + 1
  | .slice elems spare => uptoBulkAll elems + uptoBulkAll spare + 1
  | .agg parts => uptoBulkAll parts + 1
  | .iface _ d => uptoBulk d + 1
  | .map entries => uptoBulkEntries entries + 1
  | .held _ => 1
def uptoBulkAll {H : Type} : List (DataW H) → Nat
  | [] => 0
  | d :: r => uptoBulk d + uptoBulkAll r
def uptoBulkEntries {H : Type} : List (Lit × DataW H) → Nat
  | [] => 0
  | x :: r => uptoBulkEntry x + uptoBulkEntries r
def uptoBulkEntry {H : Type} : Lit × DataW H → Nat
  | (.string bytes, d) => bytes.length + uptoBulk d + 1
  | (_, d) => uptoBulk d + 1
 end
def uptoSmall : (H : Type) → List (DataW H) → Bool := fun _ ds => decide (uptoBulkAll ds ≤ 1048576)
def OpenSpec.upto (s : _root_.Go.ChangeSpec) : _root_.Go.OpenSpec := { _root_.Go.OpenSpec.ofChange s with cond := some uptoSmall }

/-- 'netcalculuslaw05.PointwiseTotals', WHERE WHAT IT READS IS OF BULK AT MOST 1048576: true; the input reads as it did. -/
def pointwiseTotalsUptoRow : OpenClaim := { program := "ytknimlpdpgpliaa", sum := "92cc730fc74ba8c8b8cec1ad2c8c7d1364a16a3bd06ecf93b184a8dd40c50bfb", func := "netcalculus/netcalculuslaw05.PointwiseTotals", spec := "pointwiseTotals", unfollowed := true, recurses := true, apart := false, narrowed := true }
def PointwiseTotalsUptoSaid : Prop := pointwiseTotalsUptoRow.holds Try.pinned (OpenSpec.upto pointwiseTotalsSpec)

/-- 'netcalculuslaw06.RemainderValues', WHERE WHAT IT READS IS OF BULK AT MOST 1048576: true; the input reads as it did. -/
def remainderValuesUptoRow : OpenClaim := { program := "ytknimlpdpgpliaa", sum := "92cc730fc74ba8c8b8cec1ad2c8c7d1364a16a3bd06ecf93b184a8dd40c50bfb", func := "netcalculus/netcalculuslaw06.RemainderValues", spec := "remainderValues", unfollowed := true, recurses := true, apart := false, narrowed := true }
def RemainderValuesUptoSaid : Prop := remainderValuesUptoRow.holds Try.pinned (OpenSpec.upto remainderValuesSpec)

/-- 'netcalculuslaw06.RemainderBetween', WHERE WHAT IT READS IS OF BULK AT MOST 1048576: true; the input reads as it did. -/
def remainderBetweenUptoRow : OpenClaim := { program := "ytknimlpdpgpliaa", sum := "92cc730fc74ba8c8b8cec1ad2c8c7d1364a16a3bd06ecf93b184a8dd40c50bfb", func := "netcalculus/netcalculuslaw06.RemainderBetween", spec := "remainderBetween", unfollowed := true, recurses := true, apart := false, narrowed := true }
def RemainderBetweenUptoSaid : Prop := remainderBetweenUptoRow.holds Try.pinned (OpenSpec.upto remainderBetweenSpec)

/-- 'netcalculuslaw06.RemainderMonotone', WHERE WHAT IT READS IS OF BULK AT MOST 1048576: true; the input reads as it did. -/
def remainderMonotoneUptoRow : OpenClaim := { program := "ytknimlpdpgpliaa", sum := "92cc730fc74ba8c8b8cec1ad2c8c7d1364a16a3bd06ecf93b184a8dd40c50bfb", func := "netcalculus/netcalculuslaw06.RemainderMonotone", spec := "remainderMonotone", unfollowed := true, recurses := true, apart := false, narrowed := true }
def RemainderMonotoneUptoSaid : Prop := remainderMonotoneUptoRow.holds Try.pinned (OpenSpec.upto remainderMonotoneSpec)

/-- 'netcalculuslaw13.TraceAnswers', WHERE WHAT IT READS IS OF BULK AT MOST 1048576: true; the input reads as it did. -/
def traceAnswersUptoRow : OpenClaim := { program := "ytknimlpdpgpliaa", sum := "92cc730fc74ba8c8b8cec1ad2c8c7d1364a16a3bd06ecf93b184a8dd40c50bfb", func := "netcalculus/netcalculuslaw13.TraceAnswers", spec := "traceAnswers", unfollowed := true, recurses := true, apart := false, narrowed := true }
def TraceAnswersUptoSaid : Prop := traceAnswersUptoRow.holds Try.pinned (OpenSpec.upto traceAnswersSpec)

/-- 'netcalculuslaw14.ConformAnswers', WHERE WHAT IT READS IS OF BULK AT MOST 1048576: true; the input reads as it did. -/
def conformAnswersUptoRow : OpenClaim := { program := "ytknimlpdpgpliaa", sum := "92cc730fc74ba8c8b8cec1ad2c8c7d1364a16a3bd06ecf93b184a8dd40c50bfb", func := "netcalculus/netcalculuslaw14.ConformAnswers", spec := "conformAnswers", unfollowed := true, recurses := true, apart := false, narrowed := true }
def ConformAnswersUptoSaid : Prop := conformAnswersUptoRow.holds Try.pinned (OpenSpec.upto conformAnswersSpec)

/-- 'netcalculuslaw14.ConformLeast', WHERE WHAT IT READS IS OF BULK AT MOST 1048576: true; the input reads as it did. -/
def conformLeastUptoRow : OpenClaim := { program := "ytknimlpdpgpliaa", sum := "92cc730fc74ba8c8b8cec1ad2c8c7d1364a16a3bd06ecf93b184a8dd40c50bfb", func := "netcalculus/netcalculuslaw14.ConformLeast", spec := "conformLeast", unfollowed := true, recurses := true, apart := false, narrowed := true }
def ConformLeastUptoSaid : Prop := conformLeastUptoRow.holds Try.pinned (OpenSpec.upto conformLeastSpec)

/-- 'netcalculuslaw14.ConformPolices', WHERE WHAT IT READS IS OF BULK AT MOST 1048576: true; the input reads as it did. -/
def conformPolicesUptoRow : OpenClaim := { program := "ytknimlpdpgpliaa", sum := "92cc730fc74ba8c8b8cec1ad2c8c7d1364a16a3bd06ecf93b184a8dd40c50bfb", func := "netcalculus/netcalculuslaw14.ConformPolices", spec := "conformPolices", unfollowed := true, recurses := true, apart := false, narrowed := true }
def ConformPolicesUptoSaid : Prop := conformPolicesUptoRow.holds Try.pinned (OpenSpec.upto conformPolicesSpec)

/-- 'netcalculuslaw14.ConformShapes', WHERE WHAT IT READS IS OF BULK AT MOST 1048576: true; the input reads as it did. -/
def conformShapesUptoRow : OpenClaim := { program := "ytknimlpdpgpliaa", sum := "92cc730fc74ba8c8b8cec1ad2c8c7d1364a16a3bd06ecf93b184a8dd40c50bfb", func := "netcalculus/netcalculuslaw14.ConformShapes", spec := "conformShapes", unfollowed := true, recurses := true, apart := false, narrowed := true }
def ConformShapesUptoSaid : Prop := conformShapesUptoRow.holds Try.pinned (OpenSpec.upto conformShapesSpec)

/-- 'netcalculuslaw14.ConformGreedy', WHERE WHAT IT READS IS OF BULK AT MOST 1048576: true; the input reads as it did. -/
def conformGreedyUptoRow : OpenClaim := { program := "ytknimlpdpgpliaa", sum := "92cc730fc74ba8c8b8cec1ad2c8c7d1364a16a3bd06ecf93b184a8dd40c50bfb", func := "netcalculus/netcalculuslaw14.ConformGreedy", spec := "conformGreedy", unfollowed := true, recurses := true, apart := false, narrowed := true }
def ConformGreedyUptoSaid : Prop := conformGreedyUptoRow.holds Try.pinned (OpenSpec.upto conformGreedySpec)

/-- 'netcalculuslaw14.ConformSums', WHERE WHAT IT READS IS OF BULK AT MOST 1048576: true; the input reads as it did. -/
def conformSumsUptoRow : OpenClaim := { program := "ytknimlpdpgpliaa", sum := "92cc730fc74ba8c8b8cec1ad2c8c7d1364a16a3bd06ecf93b184a8dd40c50bfb", func := "netcalculus/netcalculuslaw14.ConformSums", spec := "conformSums", unfollowed := true, recurses := true, apart := false, narrowed := true }
def ConformSumsUptoSaid : Prop := conformSumsUptoRow.holds Try.pinned (OpenSpec.upto conformSumsSpec)

/-- 'netcalculuslaw14.ConformMoves', WHERE WHAT IT READS IS OF BULK AT MOST 1048576: true; the input reads as it did. -/
def conformMovesUptoRow : OpenClaim := { program := "ytknimlpdpgpliaa", sum := "92cc730fc74ba8c8b8cec1ad2c8c7d1364a16a3bd06ecf93b184a8dd40c50bfb", func := "netcalculus/netcalculuslaw14.ConformMoves", spec := "conformMoves", unfollowed := true, recurses := true, apart := false, narrowed := true }
def ConformMovesUptoSaid : Prop := conformMovesUptoRow.holds Try.pinned (OpenSpec.upto conformMovesSpec)

end Rows
end Go.Proofs.Ytknimlpdpgpliaa
