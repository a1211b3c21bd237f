/-
  No cell of these rows narrows 'for every input' (looked for: loops, veiled, ifaces, maps, wideKeys, modest, calm, conditions, laid).
  DERIVED. THE GIVEN ROWS OF THIS SEAT. 11 by the template 'for every input the law returns true; each argument reads behind the call as it read before'; 0 by the template 'total and deterministic' (their statements: YtombgfpheiopgaaTotals.lean).
  GIVEN WITH THE SEED: the statements are not yours to turn. If you find one false, say at which input.
  Laid BY PROGRAM, IN A SANDBOX (cutbox-rows.mjs): the forced cells as the released guide's own fill.sh prints them over the translation d1060cb5682f3689… (all of the seat's roots in one cut). By AI agents, Wed Nov 11 2026. No macro, syntax, notation, axiom, sorry.
-/
import Derived.Test.YtombgfpheiopgaaChecked
import GoSem.Claim
import GoSem.ClaimJoined
import GoSem.ClaimMapViews
import Derived.JoinedTies
import Derived.KernelRfl
namespace Go.Proofs.Ytombgfpheiopgaa
/- THE CELL 'sum', in the pinned program and in every row, IS THE sha256 OF THE DUMP (.gsa) THAT YtombgfpheiopgaaProg.lean LOADS. Nothing in Lean hashes anything: it is a label: what it is worth is what the hold of that sum in a sandbox is worth. -/
noncomputable def Try.pinned : Pinned := { name := "ytombgfpheiopgaa", sum := "d1060cb5682f368961548855011330cfaf23281fd9757898c62a956f501d9d44", checked := Try.checked }
namespace Rows
def none {H : Type} : Left H := { results := [], args := [] }

/-- 'netcalculuslaw05.PointwisePairs': WHATEVER THE INPUT: true; the input reads as it did. -/
def pointwisePairsSpec : ChangeSpec := { name := "pointwisePairs", fn := fun _ => fun
  | [d1, d2, d3] => { results := [.lit (.bool true)], args := [d1, d2, d3] }
  | _ => none }
def pointwisePairsRow : OpenClaim := { program := "ytombgfpheiopgaa", sum := "d1060cb5682f368961548855011330cfaf23281fd9757898c62a956f501d9d44", func := "netcalculus/netcalculuslaw05.PointwisePairs", spec := "pointwisePairs", unfollowed := true, recurses := true, apart := false }
def PointwisePairsSaid : Prop := pointwisePairsRow.holds Try.pinned (OpenSpec.ofChange pointwisePairsSpec)

/-- ITS FALSE NEIGHBOUR: 'it returns false'. Refute it at one input. -/
def pointwisePairsWrong : ChangeSpec := { name := "pointwisePairs", fn := fun _ => fun
  | [d1, d2, d3] => { results := [.lit (.bool false)], args := [d1, d2, d3] }
  | _ => none }
def PointwisePairsWrongFalsely : Prop := pointwisePairsRow.holds Try.pinned (OpenSpec.ofChange pointwisePairsWrong)

/-- 'netcalculuslaw05.PointwiseSingles': WHATEVER THE INPUT: true; the input reads as it did. -/
def pointwiseSinglesSpec : ChangeSpec := { name := "pointwiseSingles", fn := fun _ => fun
  | [d1, d2, d3, d4] => { results := [.lit (.bool true)], args := [d1, d2, d3, d4] }
  | _ => none }
def pointwiseSinglesRow : OpenClaim := { program := "ytombgfpheiopgaa", sum := "d1060cb5682f368961548855011330cfaf23281fd9757898c62a956f501d9d44", func := "netcalculus/netcalculuslaw05.PointwiseSingles", spec := "pointwiseSingles", unfollowed := true, recurses := true, apart := false }
def PointwiseSinglesSaid : Prop := pointwiseSinglesRow.holds Try.pinned (OpenSpec.ofChange pointwiseSinglesSpec)

/-- ITS FALSE NEIGHBOUR: 'it returns false'. Refute it at one input. -/
def pointwiseSinglesWrong : ChangeSpec := { name := "pointwiseSingles", fn := fun _ => fun
  | [d1, d2, d3, d4] => { results := [.lit (.bool false)], args := [d1, d2, d3, d4] }
  | _ => none }
def PointwiseSinglesWrongFalsely : Prop := pointwiseSinglesRow.holds Try.pinned (OpenSpec.ofChange pointwiseSinglesWrong)

/-- 'netcalculuslaw06.RemainderAnswers': WHATEVER THE INPUT: true; the input reads as it did. -/
def remainderAnswersSpec : ChangeSpec := { name := "remainderAnswers", fn := fun _ => fun
  | [d1, d2, d3] => { results := [.lit (.bool true)], args := [d1, d2, d3] }
  | _ => none }
def remainderAnswersRow : OpenClaim := { program := "ytombgfpheiopgaa", sum := "d1060cb5682f368961548855011330cfaf23281fd9757898c62a956f501d9d44", func := "netcalculus/netcalculuslaw06.RemainderAnswers", spec := "remainderAnswers", unfollowed := true, recurses := true, apart := false }
def RemainderAnswersSaid : Prop := remainderAnswersRow.holds Try.pinned (OpenSpec.ofChange remainderAnswersSpec)

/-- ITS FALSE NEIGHBOUR: 'it returns false'. Refute it at one input. -/
def remainderAnswersWrong : ChangeSpec := { name := "remainderAnswers", fn := fun _ => fun
  | [d1, d2, d3] => { results := [.lit (.bool false)], args := [d1, d2, d3] }
  | _ => none }
def RemainderAnswersWrongFalsely : Prop := remainderAnswersRow.holds Try.pinned (OpenSpec.ofChange remainderAnswersWrong)

/-- 'netcalculuslaw07.ConvolutionAnswers': WHATEVER THE INPUT: true; the input reads as it did. -/
def convolutionAnswersSpec : ChangeSpec := { name := "convolutionAnswers", fn := fun _ => fun
  | [d1, d2, d3] => { results := [.lit (.bool true)], args := [d1, d2, d3] }
  | _ => none }
def convolutionAnswersRow : OpenClaim := { program := "ytombgfpheiopgaa", sum := "d1060cb5682f368961548855011330cfaf23281fd9757898c62a956f501d9d44", func := "netcalculus/netcalculuslaw07.ConvolutionAnswers", spec := "convolutionAnswers", unfollowed := true, recurses := true, apart := false }
def ConvolutionAnswersSaid : Prop := convolutionAnswersRow.holds Try.pinned (OpenSpec.ofChange convolutionAnswersSpec)

/-- ITS FALSE NEIGHBOUR: 'it returns false'. Refute it at one input. -/
def convolutionAnswersWrong : ChangeSpec := { name := "convolutionAnswers", fn := fun _ => fun
  | [d1, d2, d3] => { results := [.lit (.bool false)], args := [d1, d2, d3] }
  | _ => none }
def ConvolutionAnswersWrongFalsely : Prop := convolutionAnswersRow.holds Try.pinned (OpenSpec.ofChange convolutionAnswersWrong)

/-- 'netcalculuslaw08.DeconvolutionChecks': WHATEVER THE INPUT: true; the input reads as it did. -/
def deconvolutionChecksSpec : ChangeSpec := { name := "deconvolutionChecks", fn := fun _ => fun
  | [d1, d2, d3, d4] => { results := [.lit (.bool true)], args := [d1, d2, d3, d4] }
  | _ => none }
def deconvolutionChecksRow : OpenClaim := { program := "ytombgfpheiopgaa", sum := "d1060cb5682f368961548855011330cfaf23281fd9757898c62a956f501d9d44", func := "netcalculus/netcalculuslaw08.DeconvolutionChecks", spec := "deconvolutionChecks", unfollowed := true, recurses := true, apart := false }
def DeconvolutionChecksSaid : Prop := deconvolutionChecksRow.holds Try.pinned (OpenSpec.ofChange deconvolutionChecksSpec)

/-- ITS FALSE NEIGHBOUR: 'it returns false'. Refute it at one input. -/
def deconvolutionChecksWrong : ChangeSpec := { name := "deconvolutionChecks", fn := fun _ => fun
  | [d1, d2, d3, d4] => { results := [.lit (.bool false)], args := [d1, d2, d3, d4] }
  | _ => none }
def DeconvolutionChecksWrongFalsely : Prop := deconvolutionChecksRow.holds Try.pinned (OpenSpec.ofChange deconvolutionChecksWrong)

/-- 'netcalculuslaw09.ClosureChecks': WHATEVER THE INPUT: true; the input reads as it did. -/
def closureChecksSpec : ChangeSpec := { name := "closureChecks", fn := fun _ => fun
  | [d1, d2, d3] => { results := [.lit (.bool true)], args := [d1, d2, d3] }
  | _ => none }
def closureChecksRow : OpenClaim := { program := "ytombgfpheiopgaa", sum := "d1060cb5682f368961548855011330cfaf23281fd9757898c62a956f501d9d44", func := "netcalculus/netcalculuslaw09.ClosureChecks", spec := "closureChecks", unfollowed := true, recurses := true, apart := false }
def ClosureChecksSaid : Prop := closureChecksRow.holds Try.pinned (OpenSpec.ofChange closureChecksSpec)

/-- ITS FALSE NEIGHBOUR: 'it returns false'. Refute it at one input. -/
def closureChecksWrong : ChangeSpec := { name := "closureChecks", fn := fun _ => fun
  | [d1, d2, d3] => { results := [.lit (.bool false)], args := [d1, d2, d3] }
  | _ => none }
def ClosureChecksWrongFalsely : Prop := closureChecksRow.holds Try.pinned (OpenSpec.ofChange closureChecksWrong)

/-- 'netcalculuslaw11.BucketMakes': WHATEVER THE INPUT: true; the input reads as it did. -/
def bucketMakesSpec : ChangeSpec := { name := "bucketMakes", fn := fun _ => fun
  | [d1, d2, d3, d4] => { results := [.lit (.bool true)], args := [d1, d2, d3, d4] }
  | _ => none }
def bucketMakesRow : OpenClaim := { program := "ytombgfpheiopgaa", sum := "d1060cb5682f368961548855011330cfaf23281fd9757898c62a956f501d9d44", func := "netcalculus/netcalculuslaw11.BucketMakes", spec := "bucketMakes", unfollowed := true, recurses := true, apart := false }
def BucketMakesSaid : Prop := bucketMakesRow.holds Try.pinned (OpenSpec.ofChange bucketMakesSpec)

/-- ITS FALSE NEIGHBOUR: 'it returns false'. Refute it at one input. -/
def bucketMakesWrong : ChangeSpec := { name := "bucketMakes", fn := fun _ => fun
  | [d1, d2, d3, d4] => { results := [.lit (.bool false)], args := [d1, d2, d3, d4] }
  | _ => none }
def BucketMakesWrongFalsely : Prop := bucketMakesRow.holds Try.pinned (OpenSpec.ofChange bucketMakesWrong)

/-- 'netcalculuslaw11.BucketExcess': WHATEVER THE INPUT: true; the input reads as it did. -/
def bucketExcessSpec : ChangeSpec := { name := "bucketExcess", fn := fun _ => fun
  | [d1, d2, d3] => { results := [.lit (.bool true)], args := [d1, d2, d3] }
  | _ => none }
def bucketExcessRow : OpenClaim := { program := "ytombgfpheiopgaa", sum := "d1060cb5682f368961548855011330cfaf23281fd9757898c62a956f501d9d44", func := "netcalculus/netcalculuslaw11.BucketExcess", spec := "bucketExcess", unfollowed := true, recurses := true, apart := false }
def BucketExcessSaid : Prop := bucketExcessRow.holds Try.pinned (OpenSpec.ofChange bucketExcessSpec)

/-- ITS FALSE NEIGHBOUR: 'it returns false'. Refute it at one input. -/
def bucketExcessWrong : ChangeSpec := { name := "bucketExcess", fn := fun _ => fun
  | [d1, d2, d3] => { results := [.lit (.bool false)], args := [d1, d2, d3] }
  | _ => none }
def BucketExcessWrongFalsely : Prop := bucketExcessRow.holds Try.pinned (OpenSpec.ofChange bucketExcessWrong)

/-- 'netcalculuslaw11.BucketKeeps': WHATEVER THE INPUT: true; the input reads as it did. -/
def bucketKeepsSpec : ChangeSpec := { name := "bucketKeeps", fn := fun _ => fun
  | [d] => { results := [.lit (.bool true)], args := [d] }
  | _ => none }
def bucketKeepsRow : OpenClaim := { program := "ytombgfpheiopgaa", sum := "d1060cb5682f368961548855011330cfaf23281fd9757898c62a956f501d9d44", func := "netcalculus/netcalculuslaw11.BucketKeeps", spec := "bucketKeeps", unfollowed := true, recurses := true, apart := false }
def BucketKeepsSaid : Prop := bucketKeepsRow.holds Try.pinned (OpenSpec.ofChange bucketKeepsSpec)

/-- ITS FALSE NEIGHBOUR: 'it returns false'. Refute it at one input. -/
def bucketKeepsWrong : ChangeSpec := { name := "bucketKeeps", fn := fun _ => fun
  | [d] => { results := [.lit (.bool false)], args := [d] }
  | _ => none }
def BucketKeepsWrongFalsely : Prop := bucketKeepsRow.holds Try.pinned (OpenSpec.ofChange bucketKeepsWrong)

/-- 'netcalculuslaw11.BucketAdds': WHATEVER THE INPUT: true; the input reads as it did. -/
def bucketAddsSpec : ChangeSpec := { name := "bucketAdds", fn := fun _ => fun
  | [d] => { results := [.lit (.bool true)], args := [d] }
  | _ => none }
def bucketAddsRow : OpenClaim := { program := "ytombgfpheiopgaa", sum := "d1060cb5682f368961548855011330cfaf23281fd9757898c62a956f501d9d44", func := "netcalculus/netcalculuslaw11.BucketAdds", spec := "bucketAdds", unfollowed := true, recurses := true, apart := false }
def BucketAddsSaid : Prop := bucketAddsRow.holds Try.pinned (OpenSpec.ofChange bucketAddsSpec)

/-- ITS FALSE NEIGHBOUR: 'it returns false'. Refute it at one input. -/
def bucketAddsWrong : ChangeSpec := { name := "bucketAdds", fn := fun _ => fun
  | [d] => { results := [.lit (.bool false)], args := [d] }
  | _ => none }
def BucketAddsWrongFalsely : Prop := bucketAddsRow.holds Try.pinned (OpenSpec.ofChange bucketAddsWrong)

/-- 'netcalculuslaw11.BucketCovers': WHATEVER THE INPUT: true; the input reads as it did. -/
def bucketCoversSpec : ChangeSpec := { name := "bucketCovers", fn := fun _ => fun
  | [d] => { results := [.lit (.bool true)], args := [d] }
  | _ => none }
def bucketCoversRow : OpenClaim := { program := "ytombgfpheiopgaa", sum := "d1060cb5682f368961548855011330cfaf23281fd9757898c62a956f501d9d44", func := "netcalculus/netcalculuslaw11.BucketCovers", spec := "bucketCovers", unfollowed := true, recurses := true, apart := false }
def BucketCoversSaid : Prop := bucketCoversRow.holds Try.pinned (OpenSpec.ofChange bucketCoversSpec)

/-- ITS FALSE NEIGHBOUR: 'it returns false'. Refute it at one input. -/
def bucketCoversWrong : ChangeSpec := { name := "bucketCovers", fn := fun _ => fun
  | [d] => { results := [.lit (.bool false)], args := [d] }
  | _ => none }
def BucketCoversWrongFalsely : Prop := bucketCoversRow.holds Try.pinned (OpenSpec.ofChange bucketCoversWrong)

/- THE SECOND FORM. 'bulk': how many values and letters a reading holds, each counted each time it is reached (what is shared counts as often as it is met; a slice's spare places count too). A statement '..UptoSaid' is the law's where the arguments, and the package variables that the reading takes, are together of bulk at most 1048576: NARROWER than '..Said'. Prove '..Said' where nothing that the law and all that it calls make is longer than what came in: it says more and counts as full. Else prove '..UptoSaid'. A law counts once. -/
mutual
def uptoBulk {H : Type} : DataW H → Nat
  | .lit (.string bytes) => bytes.length + 1
  | .lit _ => 1
  | .nil => 1
  | .ptr d => uptoBulk d + 1
  | .slice elems spare => uptoBulkAll elems + uptoBulkAll spare + 1
  | .agg parts => uptoBulkAll parts + 1
  | .iface _ d => uptoBulk d + 1
  | .map entries => uptoBulkEntries entries + 1
  | .held _ => 1
def uptoBulkAll {H : Type} : List (DataW H) → Nat
  | [] => 0
  | d :: r => uptoBulk d + uptoBulkAll r
def uptoBulkEntries {H : Type} : List (Lit × DataW H) → Nat
  | [] => 0
  | x :: r => uptoBulkEntry x + uptoBulkEntries r
def uptoBulkEntry {H : Type} : Lit × DataW H → Nat
  | (.string bytes, d) => bytes.length + uptoBulk d + 1
  | (_, d) => uptoBulk d + 1
 end
def uptoSmall : (H : Type) → List (DataW H) → Bool := fun _ ds => decide (uptoBulkAll ds ≤ 1048576)
def OpenSpec.upto (s : _root_.Go.ChangeSpec) : _root_.Go.OpenSpec := { _root_.Go.OpenSpec.ofChange s with cond := some uptoSmall }

/-- 'netcalculuslaw05.PointwisePairs', WHERE WHAT IT READS IS OF BULK AT MOST 1048576: true; the input reads as it did. -/
def pointwisePairsUptoRow : OpenClaim := { program := "ytombgfpheiopgaa", sum := "d1060cb5682f368961548855011330cfaf23281fd9757898c62a956f501d9d44", func := "netcalculus/netcalculuslaw05.PointwisePairs", spec := "pointwisePairs", unfollowed := true, recurses := true, apart := false, narrowed := true }
def PointwisePairsUptoSaid : Prop := pointwisePairsUptoRow.holds Try.pinned (OpenSpec.upto pointwisePairsSpec)

/-- 'netcalculuslaw05.PointwiseSingles', WHERE WHAT IT READS IS OF BULK AT MOST 1048576: true; the input reads as it did. -/
def pointwiseSinglesUptoRow : OpenClaim := { program := "ytombgfpheiopgaa", sum := "d1060cb5682f368961548855011330cfaf23281fd9757898c62a956f501d9d44", func := "netcalculus/netcalculuslaw05.PointwiseSingles", spec := "pointwiseSingles", unfollowed := true, recurses := true, apart := false, narrowed := true }
def PointwiseSinglesUptoSaid : Prop := pointwiseSinglesUptoRow.holds Try.pinned (OpenSpec.upto pointwiseSinglesSpec)

/-- 'netcalculuslaw06.RemainderAnswers', WHERE WHAT IT READS IS OF BULK AT MOST 1048576: true; the input reads as it did. -/
def remainderAnswersUptoRow : OpenClaim := { program := "ytombgfpheiopgaa", sum := "d1060cb5682f368961548855011330cfaf23281fd9757898c62a956f501d9d44", func := "netcalculus/netcalculuslaw06.RemainderAnswers", spec := "remainderAnswers", unfollowed := true, recurses := true, apart := false, narrowed := true }
def RemainderAnswersUptoSaid : Prop := remainderAnswersUptoRow.holds Try.pinned (OpenSpec.upto remainderAnswersSpec)

/-- 'netcalculuslaw07.ConvolutionAnswers', WHERE WHAT IT READS IS OF BULK AT MOST 1048576: true; the input reads as it did. -/
def convolutionAnswersUptoRow : OpenClaim := { program := "ytombgfpheiopgaa", sum := "d1060cb5682f368961548855011330cfaf23281fd9757898c62a956f501d9d44", func := "netcalculus/netcalculuslaw07.ConvolutionAnswers", spec := "convolutionAnswers", unfollowed := true, recurses := true, apart := false, narrowed := true }
def ConvolutionAnswersUptoSaid : Prop := convolutionAnswersUptoRow.holds Try.pinned (OpenSpec.upto convolutionAnswersSpec)

/-- 'netcalculuslaw08.DeconvolutionChecks', WHERE WHAT IT READS IS OF BULK AT MOST 1048576: true; the input reads as it did. -/
def deconvolutionChecksUptoRow : OpenClaim := { program := "ytombgfpheiopgaa", sum := "d1060cb5682f368961548855011330cfaf23281fd9757898c62a956f501d9d44", func := "netcalculus/netcalculuslaw08.DeconvolutionChecks", spec := "deconvolutionChecks", unfollowed := true, recurses := true, apart := false, narrowed := true }
def DeconvolutionChecksUptoSaid : Prop := deconvolutionChecksUptoRow.holds Try.pinned (OpenSpec.upto deconvolutionChecksSpec)

/-- 'netcalculuslaw09.ClosureChecks', WHERE WHAT IT READS IS OF BULK AT MOST 1048576: true; the input reads as it did. -/
def closureChecksUptoRow : OpenClaim := { program := "ytombgfpheiopgaa", sum := "d1060cb5682f368961548855011330cfaf23281fd9757898c62a956f501d9d44", func := "netcalculus/netcalculuslaw09.ClosureChecks", spec := "closureChecks", unfollowed := true, recurses := true, apart := false, narrowed := true }
def ClosureChecksUptoSaid : Prop := closureChecksUptoRow.holds Try.pinned (OpenSpec.upto closureChecksSpec)

/-- 'netcalculuslaw11.BucketMakes', WHERE WHAT IT READS IS OF BULK AT MOST 1048576: true; the input reads as it did. -/
def bucketMakesUptoRow : OpenClaim := { program := "ytombgfpheiopgaa", sum := "d1060cb5682f368961548855011330cfaf23281fd9757898c62a956f501d9d44", func := "netcalculus/netcalculuslaw11.BucketMakes", spec := "bucketMakes", unfollowed := true, recurses := true, apart := false, narrowed := true }
def BucketMakesUptoSaid : Prop := bucketMakesUptoRow.holds Try.pinned (OpenSpec.upto bucketMakesSpec)

/-- 'netcalculuslaw11.BucketExcess', WHERE WHAT IT READS IS OF BULK AT MOST 1048576: true; the input reads as it did. -/
def bucketExcessUptoRow : OpenClaim := { program := "ytombgfpheiopgaa", sum := "d1060cb5682f368961548855011330cfaf23281fd9757898c62a956f501d9d44", func := "netcalculus/netcalculuslaw11.BucketExcess", spec := "bucketExcess", unfollowed := true, recurses := true, apart := false, narrowed := true }
def BucketExcessUptoSaid : Prop := bucketExcessUptoRow.holds Try.pinned (OpenSpec.upto bucketExcessSpec)

/-- 'netcalculuslaw11.BucketKeeps', WHERE WHAT IT READS IS OF BULK AT MOST 1048576: true; the input reads as it did. -/
def bucketKeepsUptoRow : OpenClaim := { program := "ytombgfpheiopgaa", sum := "d1060cb5682f368961548855011330cfaf23281fd9757898c62a956f501d9d44", func := "netcalculus/netcalculuslaw11.BucketKeeps", spec := "bucketKeeps", unfollowed := true, recurses := true, apart := false, narrowed := true }
def BucketKeepsUptoSaid : Prop := bucketKeepsUptoRow.holds Try.pinned (OpenSpec.upto bucketKeepsSpec)

/-- 'netcalculuslaw11.BucketAdds', WHERE WHAT IT READS IS OF BULK AT MOST 1048576: true; the input reads as it did. -/
def bucketAddsUptoRow : OpenClaim := { program := "ytombgfpheiopgaa", sum := "d1060cb5682f368961548855011330cfaf23281fd9757898c62a956f501d9d44", func := "netcalculus/netcalculuslaw11.BucketAdds", spec := "bucketAdds", unfollowed := true, recurses := true, apart := false, narrowed := true }
def BucketAddsUptoSaid : Prop := bucketAddsUptoRow.holds Try.pinned (OpenSpec.upto bucketAddsSpec)

/-- 'netcalculuslaw11.BucketCovers', WHERE WHAT IT READS IS OF BULK AT MOST 1048576: true; the input reads as it did. -/
def bucketCoversUptoRow : OpenClaim := { program := "ytombgfpheiopgaa", sum := "d1060cb5682f368961548855011330cfaf23281fd9757898c62a956f501d9d44", func := "netcalculus/netcalculuslaw11.BucketCovers", spec := "bucketCovers", unfollowed := true, recurses := true, apart := false, narrowed := true }
def BucketCoversUptoSaid : Prop := bucketCoversUptoRow.holds Try.pinned (OpenSpec.upto bucketCoversSpec)

end Rows
end Go.Proofs.Ytombgfpheiopgaa
