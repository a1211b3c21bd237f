/-
  No cell of these rows narrows 'for every input' (looked for: loops, veiled, ifaces, maps, wideKeys, modest, calm, conditions, laid).
  DERIVED. THE GIVEN ROWS OF THIS SEAT. 12 by the template 'for every input the law returns true; each argument reads behind the call as it read before'; 0 by the template 'total and deterministic' (their statements: YtenfhjmaljleoaaTotals.lean).
  GIVEN WITH THE SEED: the statements are not yours to turn. If you find one false, say at which input.
  Laid BY PROGRAM, IN A SANDBOX (cutbox-rows.mjs): the forced cells as the released guide's own fill.sh prints them over the translation 43c06581081f96fb… (all of the seat's roots in one cut). By AI agents, Wed Nov 11 2026. No macro, syntax, notation, axiom, sorry.
-/
import Derived.Test.YtenfhjmaljleoaaChecked
import GoSem.Claim
import GoSem.ClaimJoined
import GoSem.ClaimMapViews
import Derived.JoinedTies
import Derived.KernelRfl
namespace Go.Proofs.Ytenfhjmaljleoaa
/- THE CELL 'sum', in the pinned program and in every row, IS THE sha256 OF THE DUMP (.gsa) THAT YtenfhjmaljleoaaProg.lean LOADS. Nothing in Lean hashes anything: it is a label: what it is worth is what the hold of that sum in a sandbox is worth. -/
noncomputable def Try.pinned : Pinned := { name := "ytenfhjmaljleoaa", sum := "43c06581081f96fb291f52a69cc6768309bde2bbb3b68933751ca533934b3672", checked := Try.checked }
namespace Rows
def none {H : Type} : Left H := { results := [], args := [] }

/-- 'netcalculuslaw13.TraceAnswers': WHATEVER THE INPUT: true; the input reads as it did. -/
def traceAnswersSpec : ChangeSpec := { name := "traceAnswers", fn := fun _ => fun
  | [d1, d2, d3, d4, d5] => { results := [.lit (.bool true)], args := [d1, d2, d3, d4, d5] }
  | _ => none }
def traceAnswersRow : OpenClaim := { program := "ytenfhjmaljleoaa", sum := "43c06581081f96fb291f52a69cc6768309bde2bbb3b68933751ca533934b3672", func := "netcalculus/netcalculuslaw13.TraceAnswers", spec := "traceAnswers", unfollowed := true, recurses := true, apart := false }
def TraceAnswersSaid : Prop := traceAnswersRow.holds Try.pinned (OpenSpec.ofChange traceAnswersSpec)

/-- ITS FALSE NEIGHBOUR: 'it returns false'. Refute it at one input. -/
def traceAnswersWrong : ChangeSpec := { name := "traceAnswers", fn := fun _ => fun
  | [d1, d2, d3, d4, d5] => { results := [.lit (.bool false)], args := [d1, d2, d3, d4, d5] }
  | _ => none }
def TraceAnswersWrongFalsely : Prop := traceAnswersRow.holds Try.pinned (OpenSpec.ofChange traceAnswersWrong)

/-- 'netcalculuslaw13.TraceSums': WHATEVER THE INPUT: true; the input reads as it did. -/
def traceSumsSpec : ChangeSpec := { name := "traceSums", fn := fun _ => fun
  | [d] => { results := [.lit (.bool true)], args := [d] }
  | _ => none }
def traceSumsRow : OpenClaim := { program := "ytenfhjmaljleoaa", sum := "43c06581081f96fb291f52a69cc6768309bde2bbb3b68933751ca533934b3672", func := "netcalculus/netcalculuslaw13.TraceSums", spec := "traceSums", unfollowed := true, recurses := true, apart := false }
def TraceSumsSaid : Prop := traceSumsRow.holds Try.pinned (OpenSpec.ofChange traceSumsSpec)

/-- ITS FALSE NEIGHBOUR: 'it returns false'. Refute it at one input. -/
def traceSumsWrong : ChangeSpec := { name := "traceSums", fn := fun _ => fun
  | [d] => { results := [.lit (.bool false)], args := [d] }
  | _ => none }
def TraceSumsWrongFalsely : Prop := traceSumsRow.holds Try.pinned (OpenSpec.ofChange traceSumsWrong)

/-- 'netcalculuslaw13.TraceOrders': WHATEVER THE INPUT: true; the input reads as it did. -/
def traceOrdersSpec : ChangeSpec := { name := "traceOrders", fn := fun _ => fun
  | [d1, d2] => { results := [.lit (.bool true)], args := [d1, d2] }
  | _ => none }
def traceOrdersRow : OpenClaim := { program := "ytenfhjmaljleoaa", sum := "43c06581081f96fb291f52a69cc6768309bde2bbb3b68933751ca533934b3672", func := "netcalculus/netcalculuslaw13.TraceOrders", spec := "traceOrders", unfollowed := true, recurses := true, apart := false }
def TraceOrdersSaid : Prop := traceOrdersRow.holds Try.pinned (OpenSpec.ofChange traceOrdersSpec)

/-- ITS FALSE NEIGHBOUR: 'it returns false'. Refute it at one input. -/
def traceOrdersWrong : ChangeSpec := { name := "traceOrders", fn := fun _ => fun
  | [d1, d2] => { results := [.lit (.bool false)], args := [d1, d2] }
  | _ => none }
def TraceOrdersWrongFalsely : Prop := traceOrdersRow.holds Try.pinned (OpenSpec.ofChange traceOrdersWrong)

/-- 'netcalculuslaw05.PointwiseSingles': WHATEVER THE INPUT: true; the input reads as it did. -/
def pointwiseSinglesSpec : ChangeSpec := { name := "pointwiseSingles", fn := fun _ => fun
  | [d1, d2, d3, d4] => { results := [.lit (.bool true)], args := [d1, d2, d3, d4] }
  | _ => none }
def pointwiseSinglesRow : OpenClaim := { program := "ytenfhjmaljleoaa", sum := "43c06581081f96fb291f52a69cc6768309bde2bbb3b68933751ca533934b3672", func := "netcalculus/netcalculuslaw05.PointwiseSingles", spec := "pointwiseSingles", unfollowed := true, recurses := true, apart := false }
def PointwiseSinglesSaid : Prop := pointwiseSinglesRow.holds Try.pinned (OpenSpec.ofChange pointwiseSinglesSpec)

/-- ITS FALSE NEIGHBOUR: 'it returns false'. Refute it at one input. -/
def pointwiseSinglesWrong : ChangeSpec := { name := "pointwiseSingles", fn := fun _ => fun
  | [d1, d2, d3, d4] => { results := [.lit (.bool false)], args := [d1, d2, d3, d4] }
  | _ => none }
def PointwiseSinglesWrongFalsely : Prop := pointwiseSinglesRow.holds Try.pinned (OpenSpec.ofChange pointwiseSinglesWrong)

/-- 'netcalculuslaw07.ConvolutionAnswers': WHATEVER THE INPUT: true; the input reads as it did. -/
def convolutionAnswersSpec : ChangeSpec := { name := "convolutionAnswers", fn := fun _ => fun
  | [d1, d2, d3] => { results := [.lit (.bool true)], args := [d1, d2, d3] }
  | _ => none }
def convolutionAnswersRow : OpenClaim := { program := "ytenfhjmaljleoaa", sum := "43c06581081f96fb291f52a69cc6768309bde2bbb3b68933751ca533934b3672", func := "netcalculus/netcalculuslaw07.ConvolutionAnswers", spec := "convolutionAnswers", unfollowed := true, recurses := true, apart := false }
def ConvolutionAnswersSaid : Prop := convolutionAnswersRow.holds Try.pinned (OpenSpec.ofChange convolutionAnswersSpec)

/-- ITS FALSE NEIGHBOUR: 'it returns false'. Refute it at one input. -/
def convolutionAnswersWrong : ChangeSpec := { name := "convolutionAnswers", fn := fun _ => fun
  | [d1, d2, d3] => { results := [.lit (.bool false)], args := [d1, d2, d3] }
  | _ => none }
def ConvolutionAnswersWrongFalsely : Prop := convolutionAnswersRow.holds Try.pinned (OpenSpec.ofChange convolutionAnswersWrong)

/-- 'netcalculuslaw08.DeconvolutionChecks': WHATEVER THE INPUT: true; the input reads as it did. -/
def deconvolutionChecksSpec : ChangeSpec := { name := "deconvolutionChecks", fn := fun _ => fun
  | [d1, d2, d3, d4] => { results := [.lit (.bool true)], args := [d1, d2, d3, d4] }
  | _ => none }
def deconvolutionChecksRow : OpenClaim := { program := "ytenfhjmaljleoaa", sum := "43c06581081f96fb291f52a69cc6768309bde2bbb3b68933751ca533934b3672", func := "netcalculus/netcalculuslaw08.DeconvolutionChecks", spec := "deconvolutionChecks", unfollowed := true, recurses := true, apart := false }
def DeconvolutionChecksSaid : Prop := deconvolutionChecksRow.holds Try.pinned (OpenSpec.ofChange deconvolutionChecksSpec)

/-- ITS FALSE NEIGHBOUR: 'it returns false'. Refute it at one input. -/
def deconvolutionChecksWrong : ChangeSpec := { name := "deconvolutionChecks", fn := fun _ => fun
  | [d1, d2, d3, d4] => { results := [.lit (.bool false)], args := [d1, d2, d3, d4] }
  | _ => none }
def DeconvolutionChecksWrongFalsely : Prop := deconvolutionChecksRow.holds Try.pinned (OpenSpec.ofChange deconvolutionChecksWrong)

/-- 'netcalculuslaw09.ClosureChecks': WHATEVER THE INPUT: true; the input reads as it did. -/
def closureChecksSpec : ChangeSpec := { name := "closureChecks", fn := fun _ => fun
  | [d1, d2, d3] => { results := [.lit (.bool true)], args := [d1, d2, d3] }
  | _ => none }
def closureChecksRow : OpenClaim := { program := "ytenfhjmaljleoaa", sum := "43c06581081f96fb291f52a69cc6768309bde2bbb3b68933751ca533934b3672", func := "netcalculus/netcalculuslaw09.ClosureChecks", spec := "closureChecks", unfollowed := true, recurses := true, apart := false }
def ClosureChecksSaid : Prop := closureChecksRow.holds Try.pinned (OpenSpec.ofChange closureChecksSpec)

/-- ITS FALSE NEIGHBOUR: 'it returns false'. Refute it at one input. -/
def closureChecksWrong : ChangeSpec := { name := "closureChecks", fn := fun _ => fun
  | [d1, d2, d3] => { results := [.lit (.bool false)], args := [d1, d2, d3] }
  | _ => none }
def ClosureChecksWrongFalsely : Prop := closureChecksRow.holds Try.pinned (OpenSpec.ofChange closureChecksWrong)

/-- 'netcalculuslaw05.PointwiseValues': WHATEVER THE INPUT: true; the input reads as it did. -/
def pointwiseValuesSpec : ChangeSpec := { name := "pointwiseValues", fn := fun _ => fun
  | [d1, d2] => { results := [.lit (.bool true)], args := [d1, d2] }
  | _ => none }
def pointwiseValuesRow : OpenClaim := { program := "ytenfhjmaljleoaa", sum := "43c06581081f96fb291f52a69cc6768309bde2bbb3b68933751ca533934b3672", func := "netcalculus/netcalculuslaw05.PointwiseValues", spec := "pointwiseValues", unfollowed := true, recurses := true, apart := false }
def PointwiseValuesSaid : Prop := pointwiseValuesRow.holds Try.pinned (OpenSpec.ofChange pointwiseValuesSpec)

/-- ITS FALSE NEIGHBOUR: 'it returns false'. Refute it at one input. -/
def pointwiseValuesWrong : ChangeSpec := { name := "pointwiseValues", fn := fun _ => fun
  | [d1, d2] => { results := [.lit (.bool false)], args := [d1, d2] }
  | _ => none }
def PointwiseValuesWrongFalsely : Prop := pointwiseValuesRow.holds Try.pinned (OpenSpec.ofChange pointwiseValuesWrong)

/-- 'netcalculuslaw05.PointwiseUndoes': WHATEVER THE INPUT: true; the input reads as it did. -/
def pointwiseUndoesSpec : ChangeSpec := { name := "pointwiseUndoes", fn := fun _ => fun
  | [d] => { results := [.lit (.bool true)], args := [d] }
  | _ => none }
def pointwiseUndoesRow : OpenClaim := { program := "ytenfhjmaljleoaa", sum := "43c06581081f96fb291f52a69cc6768309bde2bbb3b68933751ca533934b3672", func := "netcalculus/netcalculuslaw05.PointwiseUndoes", spec := "pointwiseUndoes", unfollowed := true, recurses := true, apart := false }
def PointwiseUndoesSaid : Prop := pointwiseUndoesRow.holds Try.pinned (OpenSpec.ofChange pointwiseUndoesSpec)

/-- ITS FALSE NEIGHBOUR: 'it returns false'. Refute it at one input. -/
def pointwiseUndoesWrong : ChangeSpec := { name := "pointwiseUndoes", fn := fun _ => fun
  | [d] => { results := [.lit (.bool false)], args := [d] }
  | _ => none }
def PointwiseUndoesWrongFalsely : Prop := pointwiseUndoesRow.holds Try.pinned (OpenSpec.ofChange pointwiseUndoesWrong)

/-- 'netcalculuslaw05.PointwiseScales': WHATEVER THE INPUT: true; the input reads as it did. -/
def pointwiseScalesSpec : ChangeSpec := { name := "pointwiseScales", fn := fun _ => fun
  | [d] => { results := [.lit (.bool true)], args := [d] }
  | _ => none }
def pointwiseScalesRow : OpenClaim := { program := "ytenfhjmaljleoaa", sum := "43c06581081f96fb291f52a69cc6768309bde2bbb3b68933751ca533934b3672", func := "netcalculus/netcalculuslaw05.PointwiseScales", spec := "pointwiseScales", unfollowed := true, recurses := true, apart := false }
def PointwiseScalesSaid : Prop := pointwiseScalesRow.holds Try.pinned (OpenSpec.ofChange pointwiseScalesSpec)

/-- ITS FALSE NEIGHBOUR: 'it returns false'. Refute it at one input. -/
def pointwiseScalesWrong : ChangeSpec := { name := "pointwiseScales", fn := fun _ => fun
  | [d] => { results := [.lit (.bool false)], args := [d] }
  | _ => none }
def PointwiseScalesWrongFalsely : Prop := pointwiseScalesRow.holds Try.pinned (OpenSpec.ofChange pointwiseScalesWrong)

/-- 'netcalculuslaw05.PointwiseLattice': WHATEVER THE INPUT: true; the input reads as it did. -/
def pointwiseLatticeSpec : ChangeSpec := { name := "pointwiseLattice", fn := fun _ => fun
  | [d] => { results := [.lit (.bool true)], args := [d] }
  | _ => none }
def pointwiseLatticeRow : OpenClaim := { program := "ytenfhjmaljleoaa", sum := "43c06581081f96fb291f52a69cc6768309bde2bbb3b68933751ca533934b3672", func := "netcalculus/netcalculuslaw05.PointwiseLattice", spec := "pointwiseLattice", unfollowed := true, recurses := true, apart := false }
def PointwiseLatticeSaid : Prop := pointwiseLatticeRow.holds Try.pinned (OpenSpec.ofChange pointwiseLatticeSpec)

/-- ITS FALSE NEIGHBOUR: 'it returns false'. Refute it at one input. -/
def pointwiseLatticeWrong : ChangeSpec := { name := "pointwiseLattice", fn := fun _ => fun
  | [d] => { results := [.lit (.bool false)], args := [d] }
  | _ => none }
def PointwiseLatticeWrongFalsely : Prop := pointwiseLatticeRow.holds Try.pinned (OpenSpec.ofChange pointwiseLatticeWrong)

/-- 'netcalculuslaw05.PointwiseMonotone': WHATEVER THE INPUT: true; the input reads as it did. -/
def pointwiseMonotoneSpec : ChangeSpec := { name := "pointwiseMonotone", fn := fun _ => fun
  | [d] => { results := [.lit (.bool true)], args := [d] }
  | _ => none }
def pointwiseMonotoneRow : OpenClaim := { program := "ytenfhjmaljleoaa", sum := "43c06581081f96fb291f52a69cc6768309bde2bbb3b68933751ca533934b3672", func := "netcalculus/netcalculuslaw05.PointwiseMonotone", spec := "pointwiseMonotone", unfollowed := true, recurses := true, apart := false }
def PointwiseMonotoneSaid : Prop := pointwiseMonotoneRow.holds Try.pinned (OpenSpec.ofChange pointwiseMonotoneSpec)

/-- ITS FALSE NEIGHBOUR: 'it returns false'. Refute it at one input. -/
def pointwiseMonotoneWrong : ChangeSpec := { name := "pointwiseMonotone", fn := fun _ => fun
  | [d] => { results := [.lit (.bool false)], args := [d] }
  | _ => none }
def PointwiseMonotoneWrongFalsely : Prop := pointwiseMonotoneRow.holds Try.pinned (OpenSpec.ofChange pointwiseMonotoneWrong)

/- THE SECOND FORM. 'bulk': how many values and letters a reading holds, each counted each time it is reached (what is shared counts as often as it is met; a slice's spare places count too). A statement '..UptoSaid' is the law's where the arguments, and the package variables that the reading takes, are together of bulk at most 1048576: NARROWER than '..Said'. Prove '..Said' where nothing that the law and all that it calls make is longer than what came in: it says more and counts as full. Else prove '..UptoSaid'. A law counts once. -/
mutual
def uptoBulk {H : Type} : DataW H → Nat
  | .lit (.string bytes) => bytes.length + 1
  | .lit _ => 1
  | .nil => 1
  | .ptr d => uptoBulk d + 1
  | .slice elems spare => uptoBulkAll elems + uptoBulkAll spare + 1
  | .agg parts => uptoBulkAll parts + 1
  | .iface _ d => uptoBulk d + 1
  | .map entries => uptoBulkEntries entries + 1
  | .held _ => 1
def uptoBulkAll {H : Type} : List (DataW H) → Nat
  | [] => 0
  | d :: r => uptoBulk d + uptoBulkAll r
def uptoBulkEntries {H : Type} : List (Lit × DataW H) → Nat
  | [] => 0
  | x :: r => uptoBulkEntry x + uptoBulkEntries r
def uptoBulkEntry {H : Type} : Lit × DataW H → Nat
  | (.string bytes, d) => bytes.length + uptoBulk d + 1
  | (_, d) => uptoBulk d + 1
 end
def uptoSmall : (H : Type) → List (DataW H) → Bool := fun _ ds => decide (uptoBulkAll ds ≤ 1048576)
def OpenSpec.upto (s : _root_.Go.ChangeSpec) : _root_.Go.OpenSpec := { _root_.Go.OpenSpec.ofChange s with cond := some uptoSmall }

/-- 'netcalculuslaw13.TraceAnswers', WHERE WHAT IT READS IS OF BULK AT MOST 1048576: true; the input reads as it did. -/
def traceAnswersUptoRow : OpenClaim := { program := "ytenfhjmaljleoaa", sum := "43c06581081f96fb291f52a69cc6768309bde2bbb3b68933751ca533934b3672", func := "netcalculus/netcalculuslaw13.TraceAnswers", spec := "traceAnswers", unfollowed := true, recurses := true, apart := false, narrowed := true }
def TraceAnswersUptoSaid : Prop := traceAnswersUptoRow.holds Try.pinned (OpenSpec.upto traceAnswersSpec)

/-- 'netcalculuslaw13.TraceSums', WHERE WHAT IT READS IS OF BULK AT MOST 1048576: true; the input reads as it did. -/
def traceSumsUptoRow : OpenClaim := { program := "ytenfhjmaljleoaa", sum := "43c06581081f96fb291f52a69cc6768309bde2bbb3b68933751ca533934b3672", func := "netcalculus/netcalculuslaw13.TraceSums", spec := "traceSums", unfollowed := true, recurses := true, apart := false, narrowed := true }
def TraceSumsUptoSaid : Prop := traceSumsUptoRow.holds Try.pinned (OpenSpec.upto traceSumsSpec)

/-- 'netcalculuslaw13.TraceOrders', WHERE WHAT IT READS IS OF BULK AT MOST 1048576: true; the input reads as it did. -/
def traceOrdersUptoRow : OpenClaim := { program := "ytenfhjmaljleoaa", sum := "43c06581081f96fb291f52a69cc6768309bde2bbb3b68933751ca533934b3672", func := "netcalculus/netcalculuslaw13.TraceOrders", spec := "traceOrders", unfollowed := true, recurses := true, apart := false, narrowed := true }
def TraceOrdersUptoSaid : Prop := traceOrdersUptoRow.holds Try.pinned (OpenSpec.upto traceOrdersSpec)

/-- 'netcalculuslaw05.PointwiseSingles', WHERE WHAT IT READS IS OF BULK AT MOST 1048576: true; the input reads as it did. -/
def pointwiseSinglesUptoRow : OpenClaim := { program := "ytenfhjmaljleoaa", sum := "43c06581081f96fb291f52a69cc6768309bde2bbb3b68933751ca533934b3672", func := "netcalculus/netcalculuslaw05.PointwiseSingles", spec := "pointwiseSingles", unfollowed := true, recurses := true, apart := false, narrowed := true }
def PointwiseSinglesUptoSaid : Prop := pointwiseSinglesUptoRow.holds Try.pinned (OpenSpec.upto pointwiseSinglesSpec)

/-- 'netcalculuslaw07.ConvolutionAnswers', WHERE WHAT IT READS IS OF BULK AT MOST 1048576: true; the input reads as it did. -/
def convolutionAnswersUptoRow : OpenClaim := { program := "ytenfhjmaljleoaa", sum := "43c06581081f96fb291f52a69cc6768309bde2bbb3b68933751ca533934b3672", func := "netcalculus/netcalculuslaw07.ConvolutionAnswers", spec := "convolutionAnswers", unfollowed := true, recurses := true, apart := false, narrowed := true }
def ConvolutionAnswersUptoSaid : Prop := convolutionAnswersUptoRow.holds Try.pinned (OpenSpec.upto convolutionAnswersSpec)

/-- 'netcalculuslaw08.DeconvolutionChecks', WHERE WHAT IT READS IS OF BULK AT MOST 1048576: true; the input reads as it did. -/
def deconvolutionChecksUptoRow : OpenClaim := { program := "ytenfhjmaljleoaa", sum := "43c06581081f96fb291f52a69cc6768309bde2bbb3b68933751ca533934b3672", func := "netcalculus/netcalculuslaw08.DeconvolutionChecks", spec := "deconvolutionChecks", unfollowed := true, recurses := true, apart := false, narrowed := true }
def DeconvolutionChecksUptoSaid : Prop := deconvolutionChecksUptoRow.holds Try.pinned (OpenSpec.upto deconvolutionChecksSpec)

/-- 'netcalculuslaw09.ClosureChecks', WHERE WHAT IT READS IS OF BULK AT MOST 1048576: true; the input reads as it did. -/
def closureChecksUptoRow : OpenClaim := { program := "ytenfhjmaljleoaa", sum := "43c06581081f96fb291f52a69cc6768309bde2bbb3b68933751ca533934b3672", func := "netcalculus/netcalculuslaw09.ClosureChecks", spec := "closureChecks", unfollowed := true, recurses := true, apart := false, narrowed := true }
def ClosureChecksUptoSaid : Prop := closureChecksUptoRow.holds Try.pinned (OpenSpec.upto closureChecksSpec)

/-- 'netcalculuslaw05.PointwiseValues', WHERE WHAT IT READS IS OF BULK AT MOST 1048576: true; the input reads as it did. -/
def pointwiseValuesUptoRow : OpenClaim := { program := "ytenfhjmaljleoaa", sum := "43c06581081f96fb291f52a69cc6768309bde2bbb3b68933751ca533934b3672", func := "netcalculus/netcalculuslaw05.PointwiseValues", spec := "pointwiseValues", unfollowed := true, recurses := true, apart := false, narrowed := true }
def PointwiseValuesUptoSaid : Prop := pointwiseValuesUptoRow.holds Try.pinned (OpenSpec.upto pointwiseValuesSpec)

/-- 'netcalculuslaw05.PointwiseUndoes', WHERE WHAT IT READS IS OF BULK AT MOST 1048576: true; the input reads as it did. -/
def pointwiseUndoesUptoRow : OpenClaim := { program := "ytenfhjmaljleoaa", sum := "43c06581081f96fb291f52a69cc6768309bde2bbb3b68933751ca533934b3672", func := "netcalculus/netcalculuslaw05.PointwiseUndoes", spec := "pointwiseUndoes", unfollowed := true, recurses := true, apart := false, narrowed := true }
def PointwiseUndoesUptoSaid : Prop := pointwiseUndoesUptoRow.holds Try.pinned (OpenSpec.upto pointwiseUndoesSpec)

/-- 'netcalculuslaw05.PointwiseScales', WHERE WHAT IT READS IS OF BULK AT MOST 1048576: true; the input reads as it did. -/
def pointwiseScalesUptoRow : OpenClaim := { program := "ytenfhjmaljleoaa", sum := "43c06581081f96fb291f52a69cc6768309bde2bbb3b68933751ca533934b3672", func := "netcalculus/netcalculuslaw05.PointwiseScales", spec := "pointwiseScales", unfollowed := true, recurses := true, apart := false, narrowed := true }
def PointwiseScalesUptoSaid : Prop := pointwiseScalesUptoRow.holds Try.pinned (OpenSpec.upto pointwiseScalesSpec)

/-- 'netcalculuslaw05.PointwiseLattice', WHERE WHAT IT READS IS OF BULK AT MOST 1048576: true; the input reads as it did. -/
def pointwiseLatticeUptoRow : OpenClaim := { program := "ytenfhjmaljleoaa", sum := "43c06581081f96fb291f52a69cc6768309bde2bbb3b68933751ca533934b3672", func := "netcalculus/netcalculuslaw05.PointwiseLattice", spec := "pointwiseLattice", unfollowed := true, recurses := true, apart := false, narrowed := true }
def PointwiseLatticeUptoSaid : Prop := pointwiseLatticeUptoRow.holds Try.pinned (OpenSpec.upto pointwiseLatticeSpec)

/-- 'netcalculuslaw05.PointwiseMonotone', WHERE WHAT IT READS IS OF BULK AT MOST 1048576: true; the input reads as it did. -/
def pointwiseMonotoneUptoRow : OpenClaim := { program := "ytenfhjmaljleoaa", sum := "43c06581081f96fb291f52a69cc6768309bde2bbb3b68933751ca533934b3672", func := "netcalculus/netcalculuslaw05.PointwiseMonotone", spec := "pointwiseMonotone", unfollowed := true, recurses := true, apart := false, narrowed := true }
def PointwiseMonotoneUptoSaid : Prop := pointwiseMonotoneUptoRow.holds Try.pinned (OpenSpec.upto pointwiseMonotoneSpec)

end Rows
end Go.Proofs.Ytenfhjmaljleoaa
