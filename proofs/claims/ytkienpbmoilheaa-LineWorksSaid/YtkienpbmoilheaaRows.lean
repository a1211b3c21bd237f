/-
  No cell of these rows narrows 'for every input' (looked for: loops, veiled, ifaces, maps, wideKeys, modest, calm, conditions, laid).
  DERIVED. THE GIVEN ROWS OF THIS SEAT. 11 by the template 'for every input the law returns true; each argument reads behind the call as it read before'; 0 by the template 'total and deterministic' (their statements: YtkienpbmoilheaaTotals.lean).
  GIVEN WITH THE SEED: the statements are not yours to turn. If you find one false, say at which input.
  Laid BY PROGRAM, IN A SANDBOX (cutbox-rows.mjs): the forced cells as the released guide's own fill.sh prints them over the translation 4470de9a99ba3139… (all of the seat's roots in one cut). By AI agents, Wed Nov 11 2026. No macro, syntax, notation, axiom, sorry.
-/
import Derived.Test.YtkienpbmoilheaaChecked
import GoSem.Claim
import GoSem.ClaimJoined
import GoSem.ClaimMapViews
import Derived.JoinedTies
import Derived.KernelRfl
namespace Go.Proofs.Ytkienpbmoilheaa
/- THE CELL 'sum', in the pinned program and in every row, IS THE sha256 OF THE DUMP (.gsa) THAT YtkienpbmoilheaaProg.lean LOADS. Nothing in Lean hashes anything: it is a label: what it is worth is what the hold of that sum in a sandbox is worth. -/
noncomputable def Try.pinned : Pinned := { name := "ytkienpbmoilheaa", sum := "4470de9a99ba31398ea5f2e57a0e262335a81ee8b34be66277ca131698f3ab73", checked := Try.checked }
namespace Rows
def none {H : Type} : Left H := { results := [], args := [] }

/-- 'netcalculuslaw05.PointwiseSingles': WHATEVER THE INPUT: true; the input reads as it did. -/
def pointwiseSinglesSpec : ChangeSpec := { name := "pointwiseSingles", fn := fun _ => fun
  | [d1, d2, d3, d4] => { results := [.lit (.bool true)], args := [d1, d2, d3, d4] }
  | _ => none }
def pointwiseSinglesRow : OpenClaim := { program := "ytkienpbmoilheaa", sum := "4470de9a99ba31398ea5f2e57a0e262335a81ee8b34be66277ca131698f3ab73", func := "netcalculus/netcalculuslaw05.PointwiseSingles", spec := "pointwiseSingles", unfollowed := true, recurses := true, apart := false }
def PointwiseSinglesSaid : Prop := pointwiseSinglesRow.holds Try.pinned (OpenSpec.ofChange pointwiseSinglesSpec)

/-- ITS FALSE NEIGHBOUR: 'it returns false'. Refute it at one input. -/
def pointwiseSinglesWrong : ChangeSpec := { name := "pointwiseSingles", fn := fun _ => fun
  | [d1, d2, d3, d4] => { results := [.lit (.bool false)], args := [d1, d2, d3, d4] }
  | _ => none }
def PointwiseSinglesWrongFalsely : Prop := pointwiseSinglesRow.holds Try.pinned (OpenSpec.ofChange pointwiseSinglesWrong)

/-- 'netcalculuslaw07.ConvolutionAnswers': WHATEVER THE INPUT: true; the input reads as it did. -/
def convolutionAnswersSpec : ChangeSpec := { name := "convolutionAnswers", fn := fun _ => fun
  | [d1, d2, d3] => { results := [.lit (.bool true)], args := [d1, d2, d3] }
  | _ => none }
def convolutionAnswersRow : OpenClaim := { program := "ytkienpbmoilheaa", sum := "4470de9a99ba31398ea5f2e57a0e262335a81ee8b34be66277ca131698f3ab73", func := "netcalculus/netcalculuslaw07.ConvolutionAnswers", spec := "convolutionAnswers", unfollowed := true, recurses := true, apart := false }
def ConvolutionAnswersSaid : Prop := convolutionAnswersRow.holds Try.pinned (OpenSpec.ofChange convolutionAnswersSpec)

/-- ITS FALSE NEIGHBOUR: 'it returns false'. Refute it at one input. -/
def convolutionAnswersWrong : ChangeSpec := { name := "convolutionAnswers", fn := fun _ => fun
  | [d1, d2, d3] => { results := [.lit (.bool false)], args := [d1, d2, d3] }
  | _ => none }
def ConvolutionAnswersWrongFalsely : Prop := convolutionAnswersRow.holds Try.pinned (OpenSpec.ofChange convolutionAnswersWrong)

/-- 'netcalculuslaw08.DeconvolutionChecks': WHATEVER THE INPUT: true; the input reads as it did. -/
def deconvolutionChecksSpec : ChangeSpec := { name := "deconvolutionChecks", fn := fun _ => fun
  | [d1, d2, d3, d4] => { results := [.lit (.bool true)], args := [d1, d2, d3, d4] }
  | _ => none }
def deconvolutionChecksRow : OpenClaim := { program := "ytkienpbmoilheaa", sum := "4470de9a99ba31398ea5f2e57a0e262335a81ee8b34be66277ca131698f3ab73", func := "netcalculus/netcalculuslaw08.DeconvolutionChecks", spec := "deconvolutionChecks", unfollowed := true, recurses := true, apart := false }
def DeconvolutionChecksSaid : Prop := deconvolutionChecksRow.holds Try.pinned (OpenSpec.ofChange deconvolutionChecksSpec)

/-- ITS FALSE NEIGHBOUR: 'it returns false'. Refute it at one input. -/
def deconvolutionChecksWrong : ChangeSpec := { name := "deconvolutionChecks", fn := fun _ => fun
  | [d1, d2, d3, d4] => { results := [.lit (.bool false)], args := [d1, d2, d3, d4] }
  | _ => none }
def DeconvolutionChecksWrongFalsely : Prop := deconvolutionChecksRow.holds Try.pinned (OpenSpec.ofChange deconvolutionChecksWrong)

/-- 'netcalculuslaw09.ClosureChecks': WHATEVER THE INPUT: true; the input reads as it did. -/
def closureChecksSpec : ChangeSpec := { name := "closureChecks", fn := fun _ => fun
  | [d1, d2, d3] => { results := [.lit (.bool true)], args := [d1, d2, d3] }
  | _ => none }
def closureChecksRow : OpenClaim := { program := "ytkienpbmoilheaa", sum := "4470de9a99ba31398ea5f2e57a0e262335a81ee8b34be66277ca131698f3ab73", func := "netcalculus/netcalculuslaw09.ClosureChecks", spec := "closureChecks", unfollowed := true, recurses := true, apart := false }
def ClosureChecksSaid : Prop := closureChecksRow.holds Try.pinned (OpenSpec.ofChange closureChecksSpec)

/-- ITS FALSE NEIGHBOUR: 'it returns false'. Refute it at one input. -/
def closureChecksWrong : ChangeSpec := { name := "closureChecks", fn := fun _ => fun
  | [d1, d2, d3] => { results := [.lit (.bool false)], args := [d1, d2, d3] }
  | _ => none }
def ClosureChecksWrongFalsely : Prop := closureChecksRow.holds Try.pinned (OpenSpec.ofChange closureChecksWrong)

/-- 'netcalculuslaw14.ConformAnswers': WHATEVER THE INPUT: true; the input reads as it did. -/
def conformAnswersSpec : ChangeSpec := { name := "conformAnswers", fn := fun _ => fun
  | [d1, d2, d3, d4, d5] => { results := [.lit (.bool true)], args := [d1, d2, d3, d4, d5] }
  | _ => none }
def conformAnswersRow : OpenClaim := { program := "ytkienpbmoilheaa", sum := "4470de9a99ba31398ea5f2e57a0e262335a81ee8b34be66277ca131698f3ab73", func := "netcalculus/netcalculuslaw14.ConformAnswers", spec := "conformAnswers", unfollowed := true, recurses := true, apart := false }
def ConformAnswersSaid : Prop := conformAnswersRow.holds Try.pinned (OpenSpec.ofChange conformAnswersSpec)

/-- ITS FALSE NEIGHBOUR: 'it returns false'. Refute it at one input. -/
def conformAnswersWrong : ChangeSpec := { name := "conformAnswers", fn := fun _ => fun
  | [d1, d2, d3, d4, d5] => { results := [.lit (.bool false)], args := [d1, d2, d3, d4, d5] }
  | _ => none }
def ConformAnswersWrongFalsely : Prop := conformAnswersRow.holds Try.pinned (OpenSpec.ofChange conformAnswersWrong)

/-- 'netcalculuslaw16.LineAnswers': WHATEVER THE INPUT: true; the input reads as it did. -/
def lineAnswersSpec : ChangeSpec := { name := "lineAnswers", fn := fun _ => fun
  | [d1, d2, d3, d4, d5, d6] => { results := [.lit (.bool true)], args := [d1, d2, d3, d4, d5, d6] }
  | _ => none }
def lineAnswersRow : OpenClaim := { program := "ytkienpbmoilheaa", sum := "4470de9a99ba31398ea5f2e57a0e262335a81ee8b34be66277ca131698f3ab73", func := "netcalculus/netcalculuslaw16.LineAnswers", spec := "lineAnswers", unfollowed := true, recurses := true, apart := false }
def LineAnswersSaid : Prop := lineAnswersRow.holds Try.pinned (OpenSpec.ofChange lineAnswersSpec)

/-- ITS FALSE NEIGHBOUR: 'it returns false'. Refute it at one input. -/
def lineAnswersWrong : ChangeSpec := { name := "lineAnswers", fn := fun _ => fun
  | [d1, d2, d3, d4, d5, d6] => { results := [.lit (.bool false)], args := [d1, d2, d3, d4, d5, d6] }
  | _ => none }
def LineAnswersWrongFalsely : Prop := lineAnswersRow.holds Try.pinned (OpenSpec.ofChange lineAnswersWrong)

/-- 'netcalculuslaw16.LineWorks': WHATEVER THE INPUT: true; the input reads as it did. -/
def lineWorksSpec : ChangeSpec := { name := "lineWorks", fn := fun _ => fun
  | [d] => { results := [.lit (.bool true)], args := [d] }
  | _ => none }
def lineWorksRow : OpenClaim := { program := "ytkienpbmoilheaa", sum := "4470de9a99ba31398ea5f2e57a0e262335a81ee8b34be66277ca131698f3ab73", func := "netcalculus/netcalculuslaw16.LineWorks", spec := "lineWorks", unfollowed := true, recurses := true, apart := false }
def LineWorksSaid : Prop := lineWorksRow.holds Try.pinned (OpenSpec.ofChange lineWorksSpec)

/-- ITS FALSE NEIGHBOUR: 'it returns false'. Refute it at one input. -/
def lineWorksWrong : ChangeSpec := { name := "lineWorks", fn := fun _ => fun
  | [d] => { results := [.lit (.bool false)], args := [d] }
  | _ => none }
def LineWorksWrongFalsely : Prop := lineWorksRow.holds Try.pinned (OpenSpec.ofChange lineWorksWrong)

/-- 'netcalculuslaw16.LineForgets': WHATEVER THE INPUT: true; the input reads as it did. -/
def lineForgetsSpec : ChangeSpec := { name := "lineForgets", fn := fun _ => fun
  | [d] => { results := [.lit (.bool true)], args := [d] }
  | _ => none }
def lineForgetsRow : OpenClaim := { program := "ytkienpbmoilheaa", sum := "4470de9a99ba31398ea5f2e57a0e262335a81ee8b34be66277ca131698f3ab73", func := "netcalculus/netcalculuslaw16.LineForgets", spec := "lineForgets", unfollowed := true, recurses := true, apart := false }
def LineForgetsSaid : Prop := lineForgetsRow.holds Try.pinned (OpenSpec.ofChange lineForgetsSpec)

/-- ITS FALSE NEIGHBOUR: 'it returns false'. Refute it at one input. -/
def lineForgetsWrong : ChangeSpec := { name := "lineForgets", fn := fun _ => fun
  | [d] => { results := [.lit (.bool false)], args := [d] }
  | _ => none }
def LineForgetsWrongFalsely : Prop := lineForgetsRow.holds Try.pinned (OpenSpec.ofChange lineForgetsWrong)

/-- 'netcalculuslaw16.LineBounds': WHATEVER THE INPUT: true; the input reads as it did. -/
def lineBoundsSpec : ChangeSpec := { name := "lineBounds", fn := fun _ => fun
  | [d] => { results := [.lit (.bool true)], args := [d] }
  | _ => none }
def lineBoundsRow : OpenClaim := { program := "ytkienpbmoilheaa", sum := "4470de9a99ba31398ea5f2e57a0e262335a81ee8b34be66277ca131698f3ab73", func := "netcalculus/netcalculuslaw16.LineBounds", spec := "lineBounds", unfollowed := true, recurses := true, apart := false }
def LineBoundsSaid : Prop := lineBoundsRow.holds Try.pinned (OpenSpec.ofChange lineBoundsSpec)

/-- ITS FALSE NEIGHBOUR: 'it returns false'. Refute it at one input. -/
def lineBoundsWrong : ChangeSpec := { name := "lineBounds", fn := fun _ => fun
  | [d] => { results := [.lit (.bool false)], args := [d] }
  | _ => none }
def LineBoundsWrongFalsely : Prop := lineBoundsRow.holds Try.pinned (OpenSpec.ofChange lineBoundsWrong)

/-- 'netcalculuslaw16.LineMoves': WHATEVER THE INPUT: true; the input reads as it did. -/
def lineMovesSpec : ChangeSpec := { name := "lineMoves", fn := fun _ => fun
  | [d] => { results := [.lit (.bool true)], args := [d] }
  | _ => none }
def lineMovesRow : OpenClaim := { program := "ytkienpbmoilheaa", sum := "4470de9a99ba31398ea5f2e57a0e262335a81ee8b34be66277ca131698f3ab73", func := "netcalculus/netcalculuslaw16.LineMoves", spec := "lineMoves", unfollowed := true, recurses := true, apart := false }
def LineMovesSaid : Prop := lineMovesRow.holds Try.pinned (OpenSpec.ofChange lineMovesSpec)

/-- ITS FALSE NEIGHBOUR: 'it returns false'. Refute it at one input. -/
def lineMovesWrong : ChangeSpec := { name := "lineMoves", fn := fun _ => fun
  | [d] => { results := [.lit (.bool false)], args := [d] }
  | _ => none }
def LineMovesWrongFalsely : Prop := lineMovesRow.holds Try.pinned (OpenSpec.ofChange lineMovesWrong)

/-- 'netcalculuslaw16.LineScales': WHATEVER THE INPUT: true; the input reads as it did. -/
def lineScalesSpec : ChangeSpec := { name := "lineScales", fn := fun _ => fun
  | [d] => { results := [.lit (.bool true)], args := [d] }
  | _ => none }
def lineScalesRow : OpenClaim := { program := "ytkienpbmoilheaa", sum := "4470de9a99ba31398ea5f2e57a0e262335a81ee8b34be66277ca131698f3ab73", func := "netcalculus/netcalculuslaw16.LineScales", spec := "lineScales", unfollowed := true, recurses := true, apart := false }
def LineScalesSaid : Prop := lineScalesRow.holds Try.pinned (OpenSpec.ofChange lineScalesSpec)

/-- ITS FALSE NEIGHBOUR: 'it returns false'. Refute it at one input. -/
def lineScalesWrong : ChangeSpec := { name := "lineScales", fn := fun _ => fun
  | [d] => { results := [.lit (.bool false)], args := [d] }
  | _ => none }
def LineScalesWrongFalsely : Prop := lineScalesRow.holds Try.pinned (OpenSpec.ofChange lineScalesWrong)

/- THE SECOND FORM. 'bulk': how many values and letters a reading holds, each counted each time it is reached (what is shared counts as often as it is met; a slice's spare places count too). A statement '..UptoSaid' is the law's where the arguments, and the package variables that the reading takes, are together of bulk at most 1048576: NARROWER than '..Said'. Prove '..Said' where nothing that the law and all that it calls make is longer than what came in: it says more and counts as full. Else prove '..UptoSaid'. A law counts once. -/
mutual
def uptoBulk {H : Type} : DataW H → Nat
  | .lit (.string bytes) => bytes.length + 1
  | .lit _ => 1
  | .nil => 1
  | .ptr d => uptoBulk d + 1
  | .slice elems spare => uptoBulkAll elems + uptoBulkAll spare + 1
  | .agg parts => uptoBulkAll parts + 1
  | .iface _ d => uptoBulk d + 1
  | .map entries => uptoBulkEntries entries + 1
  | .held _ => 1
def uptoBulkAll {H : Type} : List (DataW H) → Nat
  | [] => 0
  | d :: r => uptoBulk d + uptoBulkAll r
def uptoBulkEntries {H : Type} : List (Lit × DataW H) → Nat
  | [] => 0
  | x :: r => uptoBulkEntry x + uptoBulkEntries r
def uptoBulkEntry {H : Type} : Lit × DataW H → Nat
  | (.string bytes, d) => bytes.length + uptoBulk d + 1
  | (_, d) => uptoBulk d + 1
 end
def uptoSmall : (H : Type) → List (DataW H) → Bool := fun _ ds => decide (uptoBulkAll ds ≤ 1048576)
def OpenSpec.upto (s : _root_.Go.ChangeSpec) : _root_.Go.OpenSpec := { _root_.Go.OpenSpec.ofChange s with cond := some uptoSmall }

/-- 'netcalculuslaw05.PointwiseSingles', WHERE WHAT IT READS IS OF BULK AT MOST 1048576: true; the input reads as it did. -/
def pointwiseSinglesUptoRow : OpenClaim := { program := "ytkienpbmoilheaa", sum := "4470de9a99ba31398ea5f2e57a0e262335a81ee8b34be66277ca131698f3ab73", func := "netcalculus/netcalculuslaw05.PointwiseSingles", spec := "pointwiseSingles", unfollowed := true, recurses := true, apart := false, narrowed := true }
def PointwiseSinglesUptoSaid : Prop := pointwiseSinglesUptoRow.holds Try.pinned (OpenSpec.upto pointwiseSinglesSpec)

/-- 'netcalculuslaw07.ConvolutionAnswers', WHERE WHAT IT READS IS OF BULK AT MOST 1048576: true; the input reads as it did. -/
def convolutionAnswersUptoRow : OpenClaim := { program := "ytkienpbmoilheaa", sum := "4470de9a99ba31398ea5f2e57a0e262335a81ee8b34be66277ca131698f3ab73", func := "netcalculus/netcalculuslaw07.ConvolutionAnswers", spec := "convolutionAnswers", unfollowed := true, recurses := true, apart := false, narrowed := true }
def ConvolutionAnswersUptoSaid : Prop := convolutionAnswersUptoRow.holds Try.pinned (OpenSpec.upto convolutionAnswersSpec)

/-- 'netcalculuslaw08.DeconvolutionChecks', WHERE WHAT IT READS IS OF BULK AT MOST 1048576: true; the input reads as it did. -/
def deconvolutionChecksUptoRow : OpenClaim := { program := "ytkienpbmoilheaa", sum := "4470de9a99ba31398ea5f2e57a0e262335a81ee8b34be66277ca131698f3ab73", func := "netcalculus/netcalculuslaw08.DeconvolutionChecks", spec := "deconvolutionChecks", unfollowed := true, recurses := true, apart := false, narrowed := true }
def DeconvolutionChecksUptoSaid : Prop := deconvolutionChecksUptoRow.holds Try.pinned (OpenSpec.upto deconvolutionChecksSpec)

/-- 'netcalculuslaw09.ClosureChecks', WHERE WHAT IT READS IS OF BULK AT MOST 1048576: true; the input reads as it did. -/
def closureChecksUptoRow : OpenClaim := { program := "ytkienpbmoilheaa", sum := "4470de9a99ba31398ea5f2e57a0e262335a81ee8b34be66277ca131698f3ab73", func := "netcalculus/netcalculuslaw09.ClosureChecks", spec := "closureChecks", unfollowed := true, recurses := true, apart := false, narrowed := true }
def ClosureChecksUptoSaid : Prop := closureChecksUptoRow.holds Try.pinned (OpenSpec.upto closureChecksSpec)

/-- 'netcalculuslaw14.ConformAnswers', WHERE WHAT IT READS IS OF BULK AT MOST 1048576: true; the input reads as it did. -/
def conformAnswersUptoRow : OpenClaim := { program := "ytkienpbmoilheaa", sum := "4470de9a99ba31398ea5f2e57a0e262335a81ee8b34be66277ca131698f3ab73", func := "netcalculus/netcalculuslaw14.ConformAnswers", spec := "conformAnswers", unfollowed := true, recurses := true, apart := false, narrowed := true }
def ConformAnswersUptoSaid : Prop := conformAnswersUptoRow.holds Try.pinned (OpenSpec.upto conformAnswersSpec)

/-- 'netcalculuslaw16.LineAnswers', WHERE WHAT IT READS IS OF BULK AT MOST 1048576: true; the input reads as it did. -/
def lineAnswersUptoRow : OpenClaim := { program := "ytkienpbmoilheaa", sum := "4470de9a99ba31398ea5f2e57a0e262335a81ee8b34be66277ca131698f3ab73", func := "netcalculus/netcalculuslaw16.LineAnswers", spec := "lineAnswers", unfollowed := true, recurses := true, apart := false, narrowed := true }
def LineAnswersUptoSaid : Prop := lineAnswersUptoRow.holds Try.pinned (OpenSpec.upto lineAnswersSpec)

/-- 'netcalculuslaw16.LineWorks', WHERE WHAT IT READS IS OF BULK AT MOST 1048576: true; the input reads as it did. -/
def lineWorksUptoRow : OpenClaim := { program := "ytkienpbmoilheaa", sum := "4470de9a99ba31398ea5f2e57a0e262335a81ee8b34be66277ca131698f3ab73", func := "netcalculus/netcalculuslaw16.LineWorks", spec := "lineWorks", unfollowed := true, recurses := true, apart := false, narrowed := true }
def LineWorksUptoSaid : Prop := lineWorksUptoRow.holds Try.pinned (OpenSpec.upto lineWorksSpec)

/-- 'netcalculuslaw16.LineForgets', WHERE WHAT IT READS IS OF BULK AT MOST 1048576: true; the input reads as it did. -/
def lineForgetsUptoRow : OpenClaim := { program := "ytkienpbmoilheaa", sum := "4470de9a99ba31398ea5f2e57a0e262335a81ee8b34be66277ca131698f3ab73", func := "netcalculus/netcalculuslaw16.LineForgets", spec := "lineForgets", unfollowed := true, recurses := true, apart := false, narrowed := true }
def LineForgetsUptoSaid : Prop := lineForgetsUptoRow.holds Try.pinned (OpenSpec.upto lineForgetsSpec)

/-- 'netcalculuslaw16.LineBounds', WHERE WHAT IT READS IS OF BULK AT MOST 1048576: true; the input reads as it did. -/
def lineBoundsUptoRow : OpenClaim := { program := "ytkienpbmoilheaa", sum := "4470de9a99ba31398ea5f2e57a0e262335a81ee8b34be66277ca131698f3ab73", func := "netcalculus/netcalculuslaw16.LineBounds", spec := "lineBounds", unfollowed := true, recurses := true, apart := false, narrowed := true }
def LineBoundsUptoSaid : Prop := lineBoundsUptoRow.holds Try.pinned (OpenSpec.upto lineBoundsSpec)

/-- 'netcalculuslaw16.LineMoves', WHERE WHAT IT READS IS OF BULK AT MOST 1048576: true; the input reads as it did. -/
def lineMovesUptoRow : OpenClaim := { program := "ytkienpbmoilheaa", sum := "4470de9a99ba31398ea5f2e57a0e262335a81ee8b34be66277ca131698f3ab73", func := "netcalculus/netcalculuslaw16.LineMoves", spec := "lineMoves", unfollowed := true, recurses := true, apart := false, narrowed := true }
def LineMovesUptoSaid : Prop := lineMovesUptoRow.holds Try.pinned (OpenSpec.upto lineMovesSpec)

/-- 'netcalculuslaw16.LineScales', WHERE WHAT IT READS IS OF BULK AT MOST 1048576: true; the input reads as it did. -/
def lineScalesUptoRow : OpenClaim := { program := "ytkienpbmoilheaa", sum := "4470de9a99ba31398ea5f2e57a0e262335a81ee8b34be66277ca131698f3ab73", func := "netcalculus/netcalculuslaw16.LineScales", spec := "lineScales", unfollowed := true, recurses := true, apart := false, narrowed := true }
def LineScalesUptoSaid : Prop := lineScalesUptoRow.holds Try.pinned (OpenSpec.upto lineScalesSpec)

end Rows
end Go.Proofs.Ytkienpbmoilheaa
