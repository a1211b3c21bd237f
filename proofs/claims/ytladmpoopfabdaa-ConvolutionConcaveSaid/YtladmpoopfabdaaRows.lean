/-
  No cell of these rows narrows 'for every input' (looked for: loops, veiled, ifaces, maps, wideKeys, modest, calm, conditions, laid).
  DERIVED. THE GIVEN ROWS OF THIS SEAT. 10 by the template 'for every input the law returns true; each argument reads behind the call as it read before'; 0 by the template 'total and deterministic' (their statements: YtladmpoopfabdaaTotals.lean).
  GIVEN WITH THE SEED: the statements are not yours to turn. If you find one false, say at which input.
  Laid BY PROGRAM, IN A SANDBOX (cutbox-rows.mjs): the forced cells as the released guide's own fill.sh prints them over the translation 204f1f2ca68a80df… (all of the seat's roots in one cut). By AI agents, Wed Nov 11 2026. No macro, syntax, notation, axiom, sorry.
-/
import Derived.Test.YtladmpoopfabdaaChecked
import GoSem.Claim
import GoSem.ClaimJoined
import GoSem.ClaimMapViews
import Derived.JoinedTies
import Derived.KernelRfl
namespace Go.Proofs.Ytladmpoopfabdaa
/- THE CELL 'sum', in the pinned program and in every row, IS THE sha256 OF THE DUMP (.gsa) THAT YtladmpoopfabdaaProg.lean LOADS. Nothing in Lean hashes anything: it is a label: what it is worth is what the hold of that sum in a sandbox is worth. -/
noncomputable def Try.pinned : Pinned := { name := "ytladmpoopfabdaa", sum := "204f1f2ca68a80df8a111f18b1636830f5705a626135eba01015e471a71141ae", checked := Try.checked }
namespace Rows
def none {H : Type} : Left H := { results := [], args := [] }

/-- 'netcalculuslaw07.ConvolutionAnswers': WHATEVER THE INPUT: true; the input reads as it did. -/
def convolutionAnswersSpec : ChangeSpec := { name := "convolutionAnswers", fn := fun _ => fun
  | [d1, d2, d3] => { results := [.lit (.bool true)], args := [d1, d2, d3] }
  | _ => none }
def convolutionAnswersRow : OpenClaim := { program := "ytladmpoopfabdaa", sum := "204f1f2ca68a80df8a111f18b1636830f5705a626135eba01015e471a71141ae", func := "netcalculus/netcalculuslaw07.ConvolutionAnswers", spec := "convolutionAnswers", unfollowed := true, recurses := true, apart := false }
def ConvolutionAnswersSaid : Prop := convolutionAnswersRow.holds Try.pinned (OpenSpec.ofChange convolutionAnswersSpec)

/-- ITS FALSE NEIGHBOUR: 'it returns false'. Refute it at one input. -/
def convolutionAnswersWrong : ChangeSpec := { name := "convolutionAnswers", fn := fun _ => fun
  | [d1, d2, d3] => { results := [.lit (.bool false)], args := [d1, d2, d3] }
  | _ => none }
def ConvolutionAnswersWrongFalsely : Prop := convolutionAnswersRow.holds Try.pinned (OpenSpec.ofChange convolutionAnswersWrong)

/-- 'netcalculuslaw07.ConvolutionProves': WHATEVER THE INPUT: true; the input reads as it did. -/
def convolutionProvesSpec : ChangeSpec := { name := "convolutionProves", fn := fun _ => fun
  | [d1, d2] => { results := [.lit (.bool true)], args := [d1, d2] }
  | _ => none }
def convolutionProvesRow : OpenClaim := { program := "ytladmpoopfabdaa", sum := "204f1f2ca68a80df8a111f18b1636830f5705a626135eba01015e471a71141ae", func := "netcalculus/netcalculuslaw07.ConvolutionProves", spec := "convolutionProves", unfollowed := true, recurses := true, apart := false }
def ConvolutionProvesSaid : Prop := convolutionProvesRow.holds Try.pinned (OpenSpec.ofChange convolutionProvesSpec)

/-- ITS FALSE NEIGHBOUR: 'it returns false'. Refute it at one input. -/
def convolutionProvesWrong : ChangeSpec := { name := "convolutionProves", fn := fun _ => fun
  | [d1, d2] => { results := [.lit (.bool false)], args := [d1, d2] }
  | _ => none }
def ConvolutionProvesWrongFalsely : Prop := convolutionProvesRow.holds Try.pinned (OpenSpec.ofChange convolutionProvesWrong)

/-- 'netcalculuslaw07.ConvolutionAlgebra': WHATEVER THE INPUT: true; the input reads as it did. -/
def convolutionAlgebraSpec : ChangeSpec := { name := "convolutionAlgebra", fn := fun _ => fun
  | [d] => { results := [.lit (.bool true)], args := [d] }
  | _ => none }
def convolutionAlgebraRow : OpenClaim := { program := "ytladmpoopfabdaa", sum := "204f1f2ca68a80df8a111f18b1636830f5705a626135eba01015e471a71141ae", func := "netcalculus/netcalculuslaw07.ConvolutionAlgebra", spec := "convolutionAlgebra", unfollowed := true, recurses := true, apart := false }
def ConvolutionAlgebraSaid : Prop := convolutionAlgebraRow.holds Try.pinned (OpenSpec.ofChange convolutionAlgebraSpec)

/-- ITS FALSE NEIGHBOUR: 'it returns false'. Refute it at one input. -/
def convolutionAlgebraWrong : ChangeSpec := { name := "convolutionAlgebra", fn := fun _ => fun
  | [d] => { results := [.lit (.bool false)], args := [d] }
  | _ => none }
def ConvolutionAlgebraWrongFalsely : Prop := convolutionAlgebraRow.holds Try.pinned (OpenSpec.ofChange convolutionAlgebraWrong)

/-- 'netcalculuslaw07.ConvolutionSpreads': WHATEVER THE INPUT: true; the input reads as it did. -/
def convolutionSpreadsSpec : ChangeSpec := { name := "convolutionSpreads", fn := fun _ => fun
  | [d] => { results := [.lit (.bool true)], args := [d] }
  | _ => none }
def convolutionSpreadsRow : OpenClaim := { program := "ytladmpoopfabdaa", sum := "204f1f2ca68a80df8a111f18b1636830f5705a626135eba01015e471a71141ae", func := "netcalculus/netcalculuslaw07.ConvolutionSpreads", spec := "convolutionSpreads", unfollowed := true, recurses := true, apart := false }
def ConvolutionSpreadsSaid : Prop := convolutionSpreadsRow.holds Try.pinned (OpenSpec.ofChange convolutionSpreadsSpec)

/-- ITS FALSE NEIGHBOUR: 'it returns false'. Refute it at one input. -/
def convolutionSpreadsWrong : ChangeSpec := { name := "convolutionSpreads", fn := fun _ => fun
  | [d] => { results := [.lit (.bool false)], args := [d] }
  | _ => none }
def ConvolutionSpreadsWrongFalsely : Prop := convolutionSpreadsRow.holds Try.pinned (OpenSpec.ofChange convolutionSpreadsWrong)

/-- 'netcalculuslaw07.ConvolutionMonotone': WHATEVER THE INPUT: true; the input reads as it did. -/
def convolutionMonotoneSpec : ChangeSpec := { name := "convolutionMonotone", fn := fun _ => fun
  | [d] => { results := [.lit (.bool true)], args := [d] }
  | _ => none }
def convolutionMonotoneRow : OpenClaim := { program := "ytladmpoopfabdaa", sum := "204f1f2ca68a80df8a111f18b1636830f5705a626135eba01015e471a71141ae", func := "netcalculus/netcalculuslaw07.ConvolutionMonotone", spec := "convolutionMonotone", unfollowed := true, recurses := true, apart := false }
def ConvolutionMonotoneSaid : Prop := convolutionMonotoneRow.holds Try.pinned (OpenSpec.ofChange convolutionMonotoneSpec)

/-- ITS FALSE NEIGHBOUR: 'it returns false'. Refute it at one input. -/
def convolutionMonotoneWrong : ChangeSpec := { name := "convolutionMonotone", fn := fun _ => fun
  | [d] => { results := [.lit (.bool false)], args := [d] }
  | _ => none }
def ConvolutionMonotoneWrongFalsely : Prop := convolutionMonotoneRow.holds Try.pinned (OpenSpec.ofChange convolutionMonotoneWrong)

/-- 'netcalculuslaw07.ConvolutionLines': WHATEVER THE INPUT: true; the input reads as it did. -/
def convolutionLinesSpec : ChangeSpec := { name := "convolutionLines", fn := fun _ => fun
  | [d] => { results := [.lit (.bool true)], args := [d] }
  | _ => none }
def convolutionLinesRow : OpenClaim := { program := "ytladmpoopfabdaa", sum := "204f1f2ca68a80df8a111f18b1636830f5705a626135eba01015e471a71141ae", func := "netcalculus/netcalculuslaw07.ConvolutionLines", spec := "convolutionLines", unfollowed := true, recurses := true, apart := false }
def ConvolutionLinesSaid : Prop := convolutionLinesRow.holds Try.pinned (OpenSpec.ofChange convolutionLinesSpec)

/-- ITS FALSE NEIGHBOUR: 'it returns false'. Refute it at one input. -/
def convolutionLinesWrong : ChangeSpec := { name := "convolutionLines", fn := fun _ => fun
  | [d] => { results := [.lit (.bool false)], args := [d] }
  | _ => none }
def ConvolutionLinesWrongFalsely : Prop := convolutionLinesRow.holds Try.pinned (OpenSpec.ofChange convolutionLinesWrong)

/-- 'netcalculuslaw07.ConvolutionConcave': WHATEVER THE INPUT: true; the input reads as it did. -/
def convolutionConcaveSpec : ChangeSpec := { name := "convolutionConcave", fn := fun _ => fun
  | [d] => { results := [.lit (.bool true)], args := [d] }
  | _ => none }
def convolutionConcaveRow : OpenClaim := { program := "ytladmpoopfabdaa", sum := "204f1f2ca68a80df8a111f18b1636830f5705a626135eba01015e471a71141ae", func := "netcalculus/netcalculuslaw07.ConvolutionConcave", spec := "convolutionConcave", unfollowed := true, recurses := true, apart := false }
def ConvolutionConcaveSaid : Prop := convolutionConcaveRow.holds Try.pinned (OpenSpec.ofChange convolutionConcaveSpec)

/-- ITS FALSE NEIGHBOUR: 'it returns false'. Refute it at one input. -/
def convolutionConcaveWrong : ChangeSpec := { name := "convolutionConcave", fn := fun _ => fun
  | [d] => { results := [.lit (.bool false)], args := [d] }
  | _ => none }
def ConvolutionConcaveWrongFalsely : Prop := convolutionConcaveRow.holds Try.pinned (OpenSpec.ofChange convolutionConcaveWrong)

/-- 'netcalculuslaw06.RemainderAnswers': WHATEVER THE INPUT: true; the input reads as it did. -/
def remainderAnswersSpec : ChangeSpec := { name := "remainderAnswers", fn := fun _ => fun
  | [d1, d2, d3] => { results := [.lit (.bool true)], args := [d1, d2, d3] }
  | _ => none }
def remainderAnswersRow : OpenClaim := { program := "ytladmpoopfabdaa", sum := "204f1f2ca68a80df8a111f18b1636830f5705a626135eba01015e471a71141ae", func := "netcalculus/netcalculuslaw06.RemainderAnswers", spec := "remainderAnswers", unfollowed := true, recurses := true, apart := false }
def RemainderAnswersSaid : Prop := remainderAnswersRow.holds Try.pinned (OpenSpec.ofChange remainderAnswersSpec)

/-- ITS FALSE NEIGHBOUR: 'it returns false'. Refute it at one input. -/
def remainderAnswersWrong : ChangeSpec := { name := "remainderAnswers", fn := fun _ => fun
  | [d1, d2, d3] => { results := [.lit (.bool false)], args := [d1, d2, d3] }
  | _ => none }
def RemainderAnswersWrongFalsely : Prop := remainderAnswersRow.holds Try.pinned (OpenSpec.ofChange remainderAnswersWrong)

/-- 'netcalculuslaw06.RemainderLeast': WHATEVER THE INPUT: true; the input reads as it did. -/
def remainderLeastSpec : ChangeSpec := { name := "remainderLeast", fn := fun _ => fun
  | [d] => { results := [.lit (.bool true)], args := [d] }
  | _ => none }
def remainderLeastRow : OpenClaim := { program := "ytladmpoopfabdaa", sum := "204f1f2ca68a80df8a111f18b1636830f5705a626135eba01015e471a71141ae", func := "netcalculus/netcalculuslaw06.RemainderLeast", spec := "remainderLeast", unfollowed := true, recurses := true, apart := false }
def RemainderLeastSaid : Prop := remainderLeastRow.holds Try.pinned (OpenSpec.ofChange remainderLeastSpec)

/-- ITS FALSE NEIGHBOUR: 'it returns false'. Refute it at one input. -/
def remainderLeastWrong : ChangeSpec := { name := "remainderLeast", fn := fun _ => fun
  | [d] => { results := [.lit (.bool false)], args := [d] }
  | _ => none }
def RemainderLeastWrongFalsely : Prop := remainderLeastRow.holds Try.pinned (OpenSpec.ofChange remainderLeastWrong)

/-- 'netcalculuslaw06.RemainderGreatest': WHATEVER THE INPUT: true; the input reads as it did. -/
def remainderGreatestSpec : ChangeSpec := { name := "remainderGreatest", fn := fun _ => fun
  | [d] => { results := [.lit (.bool true)], args := [d] }
  | _ => none }
def remainderGreatestRow : OpenClaim := { program := "ytladmpoopfabdaa", sum := "204f1f2ca68a80df8a111f18b1636830f5705a626135eba01015e471a71141ae", func := "netcalculus/netcalculuslaw06.RemainderGreatest", spec := "remainderGreatest", unfollowed := true, recurses := true, apart := false }
def RemainderGreatestSaid : Prop := remainderGreatestRow.holds Try.pinned (OpenSpec.ofChange remainderGreatestSpec)

/-- ITS FALSE NEIGHBOUR: 'it returns false'. Refute it at one input. -/
def remainderGreatestWrong : ChangeSpec := { name := "remainderGreatest", fn := fun _ => fun
  | [d] => { results := [.lit (.bool false)], args := [d] }
  | _ => none }
def RemainderGreatestWrongFalsely : Prop := remainderGreatestRow.holds Try.pinned (OpenSpec.ofChange remainderGreatestWrong)

/- THE SECOND FORM. 'bulk': how many values and letters a reading holds, each counted each time it is reached (what is shared counts as often as it is met; a slice's spare places count too). A statement '..UptoSaid' is the law's where the arguments, and the package variables that the reading takes, are together of bulk at most 1048576: NARROWER than '..Said'. Prove '..Said' where nothing that the law and all that it calls make is longer than what came in: it says more and counts as full. Else prove '..UptoSaid'. A law counts once. -/
mutual
def uptoBulk {H : Type} : DataW H → Nat
  | .lit (.string bytes) => bytes.length + 1
  | .lit _ => 1
  | .nil => 1
  | .ptr d => uptoBulk d + 1
  | .slice elems spare => uptoBulkAll elems + uptoBulkAll spare + 1
  | .agg parts => uptoBulkAll parts + 1
  | .iface _ d => uptoBulk d + 1
  | .map entries => uptoBulkEntries entries + 1
  | .held _ => 1
def uptoBulkAll {H : Type} : List (DataW H) → Nat
  | [] => 0
  | d :: r => uptoBulk d + uptoBulkAll r
def uptoBulkEntries {H : Type} : List (Lit × DataW H) → Nat
  | [] => 0
  | x :: r => uptoBulkEntry x + uptoBulkEntries r
def uptoBulkEntry {H : Type} : Lit × DataW H → Nat
  | (.string bytes, d) => bytes.length + uptoBulk d + 1
  | (_, d) => uptoBulk d + 1
 end
def uptoSmall : (H : Type) → List (DataW H) → Bool := fun _ ds => decide (uptoBulkAll ds ≤ 1048576)
def OpenSpec.upto (s : _root_.Go.ChangeSpec) : _root_.Go.OpenSpec := { _root_.Go.OpenSpec.ofChange s with cond := some uptoSmall }

/-- 'netcalculuslaw07.ConvolutionAnswers', WHERE WHAT IT READS IS OF BULK AT MOST 1048576: true; the input reads as it did. -/
def convolutionAnswersUptoRow : OpenClaim := { program := "ytladmpoopfabdaa", sum := "204f1f2ca68a80df8a111f18b1636830f5705a626135eba01015e471a71141ae", func := "netcalculus/netcalculuslaw07.ConvolutionAnswers", spec := "convolutionAnswers", unfollowed := true, recurses := true, apart := false, narrowed := true }
def ConvolutionAnswersUptoSaid : Prop := convolutionAnswersUptoRow.holds Try.pinned (OpenSpec.upto convolutionAnswersSpec)

/-- 'netcalculuslaw07.ConvolutionProves', WHERE WHAT IT READS IS OF BULK AT MOST 1048576: true; the input reads as it did. -/
def convolutionProvesUptoRow : OpenClaim := { program := "ytladmpoopfabdaa", sum := "204f1f2ca68a80df8a111f18b1636830f5705a626135eba01015e471a71141ae", func := "netcalculus/netcalculuslaw07.ConvolutionProves", spec := "convolutionProves", unfollowed := true, recurses := true, apart := false, narrowed := true }
def ConvolutionProvesUptoSaid : Prop := convolutionProvesUptoRow.holds Try.pinned (OpenSpec.upto convolutionProvesSpec)

/-- 'netcalculuslaw07.ConvolutionAlgebra', WHERE WHAT IT READS IS OF BULK AT MOST 1048576: true; the input reads as it did. -/
def convolutionAlgebraUptoRow : OpenClaim := { program := "ytladmpoopfabdaa", sum := "204f1f2ca68a80df8a111f18b1636830f5705a626135eba01015e471a71141ae", func := "netcalculus/netcalculuslaw07.ConvolutionAlgebra", spec := "convolutionAlgebra", unfollowed := true, recurses := true, apart := false, narrowed := true }
def ConvolutionAlgebraUptoSaid : Prop := convolutionAlgebraUptoRow.holds Try.pinned (OpenSpec.upto convolutionAlgebraSpec)

/-- 'netcalculuslaw07.ConvolutionSpreads', WHERE WHAT IT READS IS OF BULK AT MOST 1048576: true; the input reads as it did. -/
def convolutionSpreadsUptoRow : OpenClaim := { program := "ytladmpoopfabdaa", sum := "204f1f2ca68a80df8a111f18b1636830f5705a626135eba01015e471a71141ae", func := "netcalculus/netcalculuslaw07.ConvolutionSpreads", spec := "convolutionSpreads", unfollowed := true, recurses := true, apart := false, narrowed := true }
def ConvolutionSpreadsUptoSaid : Prop := convolutionSpreadsUptoRow.holds Try.pinned (OpenSpec.upto convolutionSpreadsSpec)

/-- 'netcalculuslaw07.ConvolutionMonotone', WHERE WHAT IT READS IS OF BULK AT MOST 1048576: true; the input reads as it did. -/
def convolutionMonotoneUptoRow : OpenClaim := { program := "ytladmpoopfabdaa", sum := "204f1f2ca68a80df8a111f18b1636830f5705a626135eba01015e471a71141ae", func := "netcalculus/netcalculuslaw07.ConvolutionMonotone", spec := "convolutionMonotone", unfollowed := true, recurses := true, apart := false, narrowed := true }
def ConvolutionMonotoneUptoSaid : Prop := convolutionMonotoneUptoRow.holds Try.pinned (OpenSpec.upto convolutionMonotoneSpec)

/-- 'netcalculuslaw07.ConvolutionLines', WHERE WHAT IT READS IS OF BULK AT MOST 1048576: true; the input reads as it did. -/
def convolutionLinesUptoRow : OpenClaim := { program := "ytladmpoopfabdaa", sum := "204f1f2ca68a80df8a111f18b1636830f5705a626135eba01015e471a71141ae", func := "netcalculus/netcalculuslaw07.ConvolutionLines", spec := "convolutionLines", unfollowed := true, recurses := true, apart := false, narrowed := true }
def ConvolutionLinesUptoSaid : Prop := convolutionLinesUptoRow.holds Try.pinned (OpenSpec.upto convolutionLinesSpec)

/-- 'netcalculuslaw07.ConvolutionConcave', WHERE WHAT IT READS IS OF BULK AT MOST 1048576: true; the input reads as it did. -/
def convolutionConcaveUptoRow : OpenClaim := { program := "ytladmpoopfabdaa", sum := "204f1f2ca68a80df8a111f18b1636830f5705a626135eba01015e471a71141ae", func := "netcalculus/netcalculuslaw07.ConvolutionConcave", spec := "convolutionConcave", unfollowed := true, recurses := true, apart := false, narrowed := true }
def ConvolutionConcaveUptoSaid : Prop := convolutionConcaveUptoRow.holds Try.pinned (OpenSpec.upto convolutionConcaveSpec)

/-- 'netcalculuslaw06.RemainderAnswers', WHERE WHAT IT READS IS OF BULK AT MOST 1048576: true; the input reads as it did. -/
def remainderAnswersUptoRow : OpenClaim := { program := "ytladmpoopfabdaa", sum := "204f1f2ca68a80df8a111f18b1636830f5705a626135eba01015e471a71141ae", func := "netcalculus/netcalculuslaw06.RemainderAnswers", spec := "remainderAnswers", unfollowed := true, recurses := true, apart := false, narrowed := true }
def RemainderAnswersUptoSaid : Prop := remainderAnswersUptoRow.holds Try.pinned (OpenSpec.upto remainderAnswersSpec)

/-- 'netcalculuslaw06.RemainderLeast', WHERE WHAT IT READS IS OF BULK AT MOST 1048576: true; the input reads as it did. -/
def remainderLeastUptoRow : OpenClaim := { program := "ytladmpoopfabdaa", sum := "204f1f2ca68a80df8a111f18b1636830f5705a626135eba01015e471a71141ae", func := "netcalculus/netcalculuslaw06.RemainderLeast", spec := "remainderLeast", unfollowed := true, recurses := true, apart := false, narrowed := true }
def RemainderLeastUptoSaid : Prop := remainderLeastUptoRow.holds Try.pinned (OpenSpec.upto remainderLeastSpec)

/-- 'netcalculuslaw06.RemainderGreatest', WHERE WHAT IT READS IS OF BULK AT MOST 1048576: true; the input reads as it did. -/
def remainderGreatestUptoRow : OpenClaim := { program := "ytladmpoopfabdaa", sum := "204f1f2ca68a80df8a111f18b1636830f5705a626135eba01015e471a71141ae", func := "netcalculus/netcalculuslaw06.RemainderGreatest", spec := "remainderGreatest", unfollowed := true, recurses := true, apart := false, narrowed := true }
def RemainderGreatestUptoSaid : Prop := remainderGreatestUptoRow.holds Try.pinned (OpenSpec.upto remainderGreatestSpec)

end Rows
end Go.Proofs.Ytladmpoopfabdaa
