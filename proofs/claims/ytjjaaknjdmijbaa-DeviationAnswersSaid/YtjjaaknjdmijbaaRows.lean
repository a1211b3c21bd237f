/-
  No cell of these rows narrows 'for every input' (looked for: loops, veiled, ifaces, maps, wideKeys, modest, calm, conditions, laid).
  DERIVED. THE GIVEN ROWS OF THIS SEAT. 12 by the template 'for every input the law returns true; each argument reads behind the call as it read before'; 0 by the template 'total and deterministic' (their statements: YtjjaaknjdmijbaaTotals.lean).
  GIVEN WITH THE SEED: the statements are not yours to turn. If you find one false, say at which input.
  Laid BY PROGRAM, IN A SANDBOX (cutbox-rows.mjs): the forced cells as the released guide's own fill.sh prints them over the translation 5b7cdf27bd67667b… (all of the seat's roots in one cut). By AI agents, Wed Nov 11 2026. No macro, syntax, notation, axiom, sorry.
-/
import Derived.Test.YtjjaaknjdmijbaaChecked
import GoSem.Claim
import GoSem.ClaimJoined
import GoSem.ClaimMapViews
import Derived.JoinedTies
import Derived.KernelRfl
namespace Go.Proofs.Ytjjaaknjdmijbaa
/- THE CELL 'sum', in the pinned program and in every row, IS THE sha256 OF THE DUMP (.gsa) THAT YtjjaaknjdmijbaaProg.lean LOADS. Nothing in Lean hashes anything: it is a label: what it is worth is what the hold of that sum in a sandbox is worth. -/
noncomputable def Try.pinned : Pinned := { name := "ytjjaaknjdmijbaa", sum := "5b7cdf27bd67667bdea7600ec00853f11940b75656b5323c19254d53bd91dc7e", checked := Try.checked }
namespace Rows
def none {H : Type} : Left H := { results := [], args := [] }

/-- 'netcalculuslaw07.ConvolutionAnswers': WHATEVER THE INPUT: true; the input reads as it did. -/
def convolutionAnswersSpec : ChangeSpec := { name := "convolutionAnswers", fn := fun _ => fun
  | [d1, d2, d3] => { results := [.lit (.bool true)], args := [d1, d2, d3] }
  | _ => none }
def convolutionAnswersRow : OpenClaim := { program := "ytjjaaknjdmijbaa", sum := "5b7cdf27bd67667bdea7600ec00853f11940b75656b5323c19254d53bd91dc7e", func := "netcalculus/netcalculuslaw07.ConvolutionAnswers", spec := "convolutionAnswers", unfollowed := true, recurses := true, apart := false }
def ConvolutionAnswersSaid : Prop := convolutionAnswersRow.holds Try.pinned (OpenSpec.ofChange convolutionAnswersSpec)

/-- ITS FALSE NEIGHBOUR: 'it returns false'. Refute it at one input. -/
def convolutionAnswersWrong : ChangeSpec := { name := "convolutionAnswers", fn := fun _ => fun
  | [d1, d2, d3] => { results := [.lit (.bool false)], args := [d1, d2, d3] }
  | _ => none }
def ConvolutionAnswersWrongFalsely : Prop := convolutionAnswersRow.holds Try.pinned (OpenSpec.ofChange convolutionAnswersWrong)

/-- 'netcalculuslaw08.DeconvolutionChecks': WHATEVER THE INPUT: true; the input reads as it did. -/
def deconvolutionChecksSpec : ChangeSpec := { name := "deconvolutionChecks", fn := fun _ => fun
  | [d1, d2, d3, d4] => { results := [.lit (.bool true)], args := [d1, d2, d3, d4] }
  | _ => none }
def deconvolutionChecksRow : OpenClaim := { program := "ytjjaaknjdmijbaa", sum := "5b7cdf27bd67667bdea7600ec00853f11940b75656b5323c19254d53bd91dc7e", func := "netcalculus/netcalculuslaw08.DeconvolutionChecks", spec := "deconvolutionChecks", unfollowed := true, recurses := true, apart := false }
def DeconvolutionChecksSaid : Prop := deconvolutionChecksRow.holds Try.pinned (OpenSpec.ofChange deconvolutionChecksSpec)

/-- ITS FALSE NEIGHBOUR: 'it returns false'. Refute it at one input. -/
def deconvolutionChecksWrong : ChangeSpec := { name := "deconvolutionChecks", fn := fun _ => fun
  | [d1, d2, d3, d4] => { results := [.lit (.bool false)], args := [d1, d2, d3, d4] }
  | _ => none }
def DeconvolutionChecksWrongFalsely : Prop := deconvolutionChecksRow.holds Try.pinned (OpenSpec.ofChange deconvolutionChecksWrong)

/-- 'netcalculuslaw09.ClosureAnswers': WHATEVER THE INPUT: true; the input reads as it did. -/
def closureAnswersSpec : ChangeSpec := { name := "closureAnswers", fn := fun _ => fun
  | [d1, d2] => { results := [.lit (.bool true)], args := [d1, d2] }
  | _ => none }
def closureAnswersRow : OpenClaim := { program := "ytjjaaknjdmijbaa", sum := "5b7cdf27bd67667bdea7600ec00853f11940b75656b5323c19254d53bd91dc7e", func := "netcalculus/netcalculuslaw09.ClosureAnswers", spec := "closureAnswers", unfollowed := true, recurses := true, apart := false }
def ClosureAnswersSaid : Prop := closureAnswersRow.holds Try.pinned (OpenSpec.ofChange closureAnswersSpec)

/-- ITS FALSE NEIGHBOUR: 'it returns false'. Refute it at one input. -/
def closureAnswersWrong : ChangeSpec := { name := "closureAnswers", fn := fun _ => fun
  | [d1, d2] => { results := [.lit (.bool false)], args := [d1, d2] }
  | _ => none }
def ClosureAnswersWrongFalsely : Prop := closureAnswersRow.holds Try.pinned (OpenSpec.ofChange closureAnswersWrong)

/-- 'netcalculuslaw09.ClosureChecks': WHATEVER THE INPUT: true; the input reads as it did. -/
def closureChecksSpec : ChangeSpec := { name := "closureChecks", fn := fun _ => fun
  | [d1, d2, d3] => { results := [.lit (.bool true)], args := [d1, d2, d3] }
  | _ => none }
def closureChecksRow : OpenClaim := { program := "ytjjaaknjdmijbaa", sum := "5b7cdf27bd67667bdea7600ec00853f11940b75656b5323c19254d53bd91dc7e", func := "netcalculus/netcalculuslaw09.ClosureChecks", spec := "closureChecks", unfollowed := true, recurses := true, apart := false }
def ClosureChecksSaid : Prop := closureChecksRow.holds Try.pinned (OpenSpec.ofChange closureChecksSpec)

/-- ITS FALSE NEIGHBOUR: 'it returns false'. Refute it at one input. -/
def closureChecksWrong : ChangeSpec := { name := "closureChecks", fn := fun _ => fun
  | [d1, d2, d3] => { results := [.lit (.bool false)], args := [d1, d2, d3] }
  | _ => none }
def ClosureChecksWrongFalsely : Prop := closureChecksRow.holds Try.pinned (OpenSpec.ofChange closureChecksWrong)

/-- 'netcalculuslaw10.DeviationAnswers': WHATEVER THE INPUT: true; the input reads as it did. -/
def deviationAnswersSpec : ChangeSpec := { name := "deviationAnswers", fn := fun _ => fun
  | [d1, d2, d3, d4] => { results := [.lit (.bool true)], args := [d1, d2, d3, d4] }
  | _ => none }
def deviationAnswersRow : OpenClaim := { program := "ytjjaaknjdmijbaa", sum := "5b7cdf27bd67667bdea7600ec00853f11940b75656b5323c19254d53bd91dc7e", func := "netcalculus/netcalculuslaw10.DeviationAnswers", spec := "deviationAnswers", unfollowed := true, recurses := true, apart := false }
def DeviationAnswersSaid : Prop := deviationAnswersRow.holds Try.pinned (OpenSpec.ofChange deviationAnswersSpec)

/-- ITS FALSE NEIGHBOUR: 'it returns false'. Refute it at one input. -/
def deviationAnswersWrong : ChangeSpec := { name := "deviationAnswers", fn := fun _ => fun
  | [d1, d2, d3, d4] => { results := [.lit (.bool false)], args := [d1, d2, d3, d4] }
  | _ => none }
def DeviationAnswersWrongFalsely : Prop := deviationAnswersRow.holds Try.pinned (OpenSpec.ofChange deviationAnswersWrong)

/-- 'netcalculuslaw10.DeviationReaches': WHATEVER THE INPUT: true; the input reads as it did. -/
def deviationReachesSpec : ChangeSpec := { name := "deviationReaches", fn := fun _ => fun
  | [d1, d2] => { results := [.lit (.bool true)], args := [d1, d2] }
  | _ => none }
def deviationReachesRow : OpenClaim := { program := "ytjjaaknjdmijbaa", sum := "5b7cdf27bd67667bdea7600ec00853f11940b75656b5323c19254d53bd91dc7e", func := "netcalculus/netcalculuslaw10.DeviationReaches", spec := "deviationReaches", unfollowed := true, recurses := true, apart := false }
def DeviationReachesSaid : Prop := deviationReachesRow.holds Try.pinned (OpenSpec.ofChange deviationReachesSpec)

/-- ITS FALSE NEIGHBOUR: 'it returns false'. Refute it at one input. -/
def deviationReachesWrong : ChangeSpec := { name := "deviationReaches", fn := fun _ => fun
  | [d1, d2] => { results := [.lit (.bool false)], args := [d1, d2] }
  | _ => none }
def DeviationReachesWrongFalsely : Prop := deviationReachesRow.holds Try.pinned (OpenSpec.ofChange deviationReachesWrong)

/-- 'netcalculuslaw10.DeviationShifts': WHATEVER THE INPUT: true; the input reads as it did. -/
def deviationShiftsSpec : ChangeSpec := { name := "deviationShifts", fn := fun _ => fun
  | [d] => { results := [.lit (.bool true)], args := [d] }
  | _ => none }
def deviationShiftsRow : OpenClaim := { program := "ytjjaaknjdmijbaa", sum := "5b7cdf27bd67667bdea7600ec00853f11940b75656b5323c19254d53bd91dc7e", func := "netcalculus/netcalculuslaw10.DeviationShifts", spec := "deviationShifts", unfollowed := true, recurses := true, apart := false }
def DeviationShiftsSaid : Prop := deviationShiftsRow.holds Try.pinned (OpenSpec.ofChange deviationShiftsSpec)

/-- ITS FALSE NEIGHBOUR: 'it returns false'. Refute it at one input. -/
def deviationShiftsWrong : ChangeSpec := { name := "deviationShifts", fn := fun _ => fun
  | [d] => { results := [.lit (.bool false)], args := [d] }
  | _ => none }
def DeviationShiftsWrongFalsely : Prop := deviationShiftsRow.holds Try.pinned (OpenSpec.ofChange deviationShiftsWrong)

/-- 'netcalculuslaw10.DeviationBacklog': WHATEVER THE INPUT: true; the input reads as it did. -/
def deviationBacklogSpec : ChangeSpec := { name := "deviationBacklog", fn := fun _ => fun
  | [d] => { results := [.lit (.bool true)], args := [d] }
  | _ => none }
def deviationBacklogRow : OpenClaim := { program := "ytjjaaknjdmijbaa", sum := "5b7cdf27bd67667bdea7600ec00853f11940b75656b5323c19254d53bd91dc7e", func := "netcalculus/netcalculuslaw10.DeviationBacklog", spec := "deviationBacklog", unfollowed := true, recurses := true, apart := false }
def DeviationBacklogSaid : Prop := deviationBacklogRow.holds Try.pinned (OpenSpec.ofChange deviationBacklogSpec)

/-- ITS FALSE NEIGHBOUR: 'it returns false'. Refute it at one input. -/
def deviationBacklogWrong : ChangeSpec := { name := "deviationBacklog", fn := fun _ => fun
  | [d] => { results := [.lit (.bool false)], args := [d] }
  | _ => none }
def DeviationBacklogWrongFalsely : Prop := deviationBacklogRow.holds Try.pinned (OpenSpec.ofChange deviationBacklogWrong)

/-- 'netcalculuslaw10.DeviationMonotone': WHATEVER THE INPUT: true; the input reads as it did. -/
def deviationMonotoneSpec : ChangeSpec := { name := "deviationMonotone", fn := fun _ => fun
  | [d] => { results := [.lit (.bool true)], args := [d] }
  | _ => none }
def deviationMonotoneRow : OpenClaim := { program := "ytjjaaknjdmijbaa", sum := "5b7cdf27bd67667bdea7600ec00853f11940b75656b5323c19254d53bd91dc7e", func := "netcalculus/netcalculuslaw10.DeviationMonotone", spec := "deviationMonotone", unfollowed := true, recurses := true, apart := false }
def DeviationMonotoneSaid : Prop := deviationMonotoneRow.holds Try.pinned (OpenSpec.ofChange deviationMonotoneSpec)

/-- ITS FALSE NEIGHBOUR: 'it returns false'. Refute it at one input. -/
def deviationMonotoneWrong : ChangeSpec := { name := "deviationMonotone", fn := fun _ => fun
  | [d] => { results := [.lit (.bool false)], args := [d] }
  | _ => none }
def DeviationMonotoneWrongFalsely : Prop := deviationMonotoneRow.holds Try.pinned (OpenSpec.ofChange deviationMonotoneWrong)

/-- 'netcalculuslaw10.DeviationOnce': WHATEVER THE INPUT: true; the input reads as it did. -/
def deviationOnceSpec : ChangeSpec := { name := "deviationOnce", fn := fun _ => fun
  | [d] => { results := [.lit (.bool true)], args := [d] }
  | _ => none }
def deviationOnceRow : OpenClaim := { program := "ytjjaaknjdmijbaa", sum := "5b7cdf27bd67667bdea7600ec00853f11940b75656b5323c19254d53bd91dc7e", func := "netcalculus/netcalculuslaw10.DeviationOnce", spec := "deviationOnce", unfollowed := true, recurses := true, apart := false }
def DeviationOnceSaid : Prop := deviationOnceRow.holds Try.pinned (OpenSpec.ofChange deviationOnceSpec)

/-- ITS FALSE NEIGHBOUR: 'it returns false'. Refute it at one input. -/
def deviationOnceWrong : ChangeSpec := { name := "deviationOnce", fn := fun _ => fun
  | [d] => { results := [.lit (.bool false)], args := [d] }
  | _ => none }
def DeviationOnceWrongFalsely : Prop := deviationOnceRow.holds Try.pinned (OpenSpec.ofChange deviationOnceWrong)

/-- 'netcalculuslaw10.DeviationScales': WHATEVER THE INPUT: true; the input reads as it did. -/
def deviationScalesSpec : ChangeSpec := { name := "deviationScales", fn := fun _ => fun
  | [d] => { results := [.lit (.bool true)], args := [d] }
  | _ => none }
def deviationScalesRow : OpenClaim := { program := "ytjjaaknjdmijbaa", sum := "5b7cdf27bd67667bdea7600ec00853f11940b75656b5323c19254d53bd91dc7e", func := "netcalculus/netcalculuslaw10.DeviationScales", spec := "deviationScales", unfollowed := true, recurses := true, apart := false }
def DeviationScalesSaid : Prop := deviationScalesRow.holds Try.pinned (OpenSpec.ofChange deviationScalesSpec)

/-- ITS FALSE NEIGHBOUR: 'it returns false'. Refute it at one input. -/
def deviationScalesWrong : ChangeSpec := { name := "deviationScales", fn := fun _ => fun
  | [d] => { results := [.lit (.bool false)], args := [d] }
  | _ => none }
def DeviationScalesWrongFalsely : Prop := deviationScalesRow.holds Try.pinned (OpenSpec.ofChange deviationScalesWrong)

/-- 'netcalculuslaw10.DeviationLater': WHATEVER THE INPUT: true; the input reads as it did. -/
def deviationLaterSpec : ChangeSpec := { name := "deviationLater", fn := fun _ => fun
  | [d] => { results := [.lit (.bool true)], args := [d] }
  | _ => none }
def deviationLaterRow : OpenClaim := { program := "ytjjaaknjdmijbaa", sum := "5b7cdf27bd67667bdea7600ec00853f11940b75656b5323c19254d53bd91dc7e", func := "netcalculus/netcalculuslaw10.DeviationLater", spec := "deviationLater", unfollowed := true, recurses := true, apart := false }
def DeviationLaterSaid : Prop := deviationLaterRow.holds Try.pinned (OpenSpec.ofChange deviationLaterSpec)

/-- ITS FALSE NEIGHBOUR: 'it returns false'. Refute it at one input. -/
def deviationLaterWrong : ChangeSpec := { name := "deviationLater", fn := fun _ => fun
  | [d] => { results := [.lit (.bool false)], args := [d] }
  | _ => none }
def DeviationLaterWrongFalsely : Prop := deviationLaterRow.holds Try.pinned (OpenSpec.ofChange deviationLaterWrong)

/- THE SECOND FORM. 'bulk': how many values and letters a reading holds, each counted each time it is reached (what is shared counts as often as it is met; a slice's spare places count too). A statement '..UptoSaid' is the law's where the arguments, and the package variables that the reading takes, are together of bulk at most 1048576: NARROWER than '..Said'. Prove '..Said' where nothing that the law and all that it calls make is longer than what came in: it says more and counts as full. Else prove '..UptoSaid'. A law counts once. -/
mutual
def uptoBulk {H : Type} : DataW H → Nat
  | .lit (.string bytes) => bytes.length + 1
  | .lit _ => 1
  | .nil => 1
  | .ptr d => uptoBulk d + 1
  | .slice elems spare => uptoBulkAll elems + uptoBulkAll spare + 1
  | .agg parts => uptoBulkAll parts + 1
  | .iface _ d => uptoBulk d + 1
  | .map entries => uptoBulkEntries entries + 1
  | .held _ => 1
def uptoBulkAll {H : Type} : List (DataW H) → Nat
  | [] => 0
  | d :: r => uptoBulk d + uptoBulkAll r
def uptoBulkEntries {H : Type} : List (Lit × DataW H) → Nat
  | [] => 0
  | x :: r => uptoBulkEntry x + uptoBulkEntries r
def uptoBulkEntry {H : Type} : Lit × DataW H → Nat
  | (.string bytes, d) => bytes.length + uptoBulk d + 1
  | (_, d) => uptoBulk d + 1
 end
def uptoSmall : (H : Type) → List (DataW H) → Bool := fun _ ds => decide (uptoBulkAll ds ≤ 1048576)
def OpenSpec.upto (s : _root_.Go.ChangeSpec) : _root_.Go.OpenSpec := { _root_.Go.OpenSpec.ofChange s with cond := some uptoSmall }

/-- 'netcalculuslaw07.ConvolutionAnswers', WHERE WHAT IT READS IS OF BULK AT MOST 1048576: true; the input reads as it did. -/
def convolutionAnswersUptoRow : OpenClaim := { program := "ytjjaaknjdmijbaa", sum := "5b7cdf27bd67667bdea7600ec00853f11940b75656b5323c19254d53bd91dc7e", func := "netcalculus/netcalculuslaw07.ConvolutionAnswers", spec := "convolutionAnswers", unfollowed := true, recurses := true, apart := false, narrowed := true }
def ConvolutionAnswersUptoSaid : Prop := convolutionAnswersUptoRow.holds Try.pinned (OpenSpec.upto convolutionAnswersSpec)

/-- 'netcalculuslaw08.DeconvolutionChecks', WHERE WHAT IT READS IS OF BULK AT MOST 1048576: true; the input reads as it did. -/
def deconvolutionChecksUptoRow : OpenClaim := { program := "ytjjaaknjdmijbaa", sum := "5b7cdf27bd67667bdea7600ec00853f11940b75656b5323c19254d53bd91dc7e", func := "netcalculus/netcalculuslaw08.DeconvolutionChecks", spec := "deconvolutionChecks", unfollowed := true, recurses := true, apart := false, narrowed := true }
def DeconvolutionChecksUptoSaid : Prop := deconvolutionChecksUptoRow.holds Try.pinned (OpenSpec.upto deconvolutionChecksSpec)

/-- 'netcalculuslaw09.ClosureAnswers', WHERE WHAT IT READS IS OF BULK AT MOST 1048576: true; the input reads as it did. -/
def closureAnswersUptoRow : OpenClaim := { program := "ytjjaaknjdmijbaa", sum := "5b7cdf27bd67667bdea7600ec00853f11940b75656b5323c19254d53bd91dc7e", func := "netcalculus/netcalculuslaw09.ClosureAnswers", spec := "closureAnswers", unfollowed := true, recurses := true, apart := false, narrowed := true }
def ClosureAnswersUptoSaid : Prop := closureAnswersUptoRow.holds Try.pinned (OpenSpec.upto closureAnswersSpec)

/-- 'netcalculuslaw09.ClosureChecks', WHERE WHAT IT READS IS OF BULK AT MOST 1048576: true; the input reads as it did. -/
def closureChecksUptoRow : OpenClaim := { program := "ytjjaaknjdmijbaa", sum := "5b7cdf27bd67667bdea7600ec00853f11940b75656b5323c19254d53bd91dc7e", func := "netcalculus/netcalculuslaw09.ClosureChecks", spec := "closureChecks", unfollowed := true, recurses := true, apart := false, narrowed := true }
def ClosureChecksUptoSaid : Prop := closureChecksUptoRow.holds Try.pinned (OpenSpec.upto closureChecksSpec)

/-- 'netcalculuslaw10.DeviationAnswers', WHERE WHAT IT READS IS OF BULK AT MOST 1048576: true; the input reads as it did. -/
def deviationAnswersUptoRow : OpenClaim := { program := "ytjjaaknjdmijbaa", sum := "5b7cdf27bd67667bdea7600ec00853f11940b75656b5323c19254d53bd91dc7e", func := "netcalculus/netcalculuslaw10.DeviationAnswers", spec := "deviationAnswers", unfollowed := true, recurses := true, apart := false, narrowed := true }
def DeviationAnswersUptoSaid : Prop := deviationAnswersUptoRow.holds Try.pinned (OpenSpec.upto deviationAnswersSpec)

/-- 'netcalculuslaw10.DeviationReaches', WHERE WHAT IT READS IS OF BULK AT MOST 1048576: true; the input reads as it did. -/
def deviationReachesUptoRow : OpenClaim := { program := "ytjjaaknjdmijbaa", sum := "5b7cdf27bd67667bdea7600ec00853f11940b75656b5323c19254d53bd91dc7e", func := "netcalculus/netcalculuslaw10.DeviationReaches", spec := "deviationReaches", unfollowed := true, recurses := true, apart := false, narrowed := true }
def DeviationReachesUptoSaid : Prop := deviationReachesUptoRow.holds Try.pinned (OpenSpec.upto deviationReachesSpec)

/-- 'netcalculuslaw10.DeviationShifts', WHERE WHAT IT READS IS OF BULK AT MOST 1048576: true; the input reads as it did. -/
def deviationShiftsUptoRow : OpenClaim := { program := "ytjjaaknjdmijbaa", sum := "5b7cdf27bd67667bdea7600ec00853f11940b75656b5323c19254d53bd91dc7e", func := "netcalculus/netcalculuslaw10.DeviationShifts", spec := "deviationShifts", unfollowed := true, recurses := true, apart := false, narrowed := true }
def DeviationShiftsUptoSaid : Prop := deviationShiftsUptoRow.holds Try.pinned (OpenSpec.upto deviationShiftsSpec)

/-- 'netcalculuslaw10.DeviationBacklog', WHERE WHAT IT READS IS OF BULK AT MOST 1048576: true; the input reads as it did. -/
def deviationBacklogUptoRow : OpenClaim := { program := "ytjjaaknjdmijbaa", sum := "5b7cdf27bd67667bdea7600ec00853f11940b75656b5323c19254d53bd91dc7e", func := "netcalculus/netcalculuslaw10.DeviationBacklog", spec := "deviationBacklog", unfollowed := true, recurses := true, apart := false, narrowed := true }
def DeviationBacklogUptoSaid : Prop := deviationBacklogUptoRow.holds Try.pinned (OpenSpec.upto deviationBacklogSpec)

/-- 'netcalculuslaw10.DeviationMonotone', WHERE WHAT IT READS IS OF BULK AT MOST 1048576: true; the input reads as it did. -/
def deviationMonotoneUptoRow : OpenClaim := { program := "ytjjaaknjdmijbaa", sum := "5b7cdf27bd67667bdea7600ec00853f11940b75656b5323c19254d53bd91dc7e", func := "netcalculus/netcalculuslaw10.DeviationMonotone", spec := "deviationMonotone", unfollowed := true, recurses := true, apart := false, narrowed := true }
def DeviationMonotoneUptoSaid : Prop := deviationMonotoneUptoRow.holds Try.pinned (OpenSpec.upto deviationMonotoneSpec)

/-- 'netcalculuslaw10.DeviationOnce', WHERE WHAT IT READS IS OF BULK AT MOST 1048576: true; the input reads as it did. -/
def deviationOnceUptoRow : OpenClaim := { program := "ytjjaaknjdmijbaa", sum := "5b7cdf27bd67667bdea7600ec00853f11940b75656b5323c19254d53bd91dc7e", func := "netcalculus/netcalculuslaw10.DeviationOnce", spec := "deviationOnce", unfollowed := true, recurses := true, apart := false, narrowed := true }
def DeviationOnceUptoSaid : Prop := deviationOnceUptoRow.holds Try.pinned (OpenSpec.upto deviationOnceSpec)

/-- 'netcalculuslaw10.DeviationScales', WHERE WHAT IT READS IS OF BULK AT MOST 1048576: true; the input reads as it did. -/
def deviationScalesUptoRow : OpenClaim := { program := "ytjjaaknjdmijbaa", sum := "5b7cdf27bd67667bdea7600ec00853f11940b75656b5323c19254d53bd91dc7e", func := "netcalculus/netcalculuslaw10.DeviationScales", spec := "deviationScales", unfollowed := true, recurses := true, apart := false, narrowed := true }
def DeviationScalesUptoSaid : Prop := deviationScalesUptoRow.holds Try.pinned (OpenSpec.upto deviationScalesSpec)

/-- 'netcalculuslaw10.DeviationLater', WHERE WHAT IT READS IS OF BULK AT MOST 1048576: true; the input reads as it did. -/
def deviationLaterUptoRow : OpenClaim := { program := "ytjjaaknjdmijbaa", sum := "5b7cdf27bd67667bdea7600ec00853f11940b75656b5323c19254d53bd91dc7e", func := "netcalculus/netcalculuslaw10.DeviationLater", spec := "deviationLater", unfollowed := true, recurses := true, apart := false, narrowed := true }
def DeviationLaterUptoSaid : Prop := deviationLaterUptoRow.holds Try.pinned (OpenSpec.upto deviationLaterSpec)

end Rows
end Go.Proofs.Ytjjaaknjdmijbaa
