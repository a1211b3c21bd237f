/-
  No cell of these rows narrows 'for every input' (looked for: loops, veiled, ifaces, maps, wideKeys, modest, calm, conditions, laid).
  DERIVED. THE GIVEN ROWS OF THIS SEAT. 10 by the template 'for every input the law returns true; each argument reads behind the call as it read before'; 0 by the template 'total and deterministic' (their statements: YtcbocglakielnaaTotals.lean).
  GIVEN WITH THE SEED: the statements are not yours to turn. If you find one false, say at which input.
  Laid BY PROGRAM, IN A SANDBOX (cutbox-rows.mjs): the forced cells as the released guide's own fill.sh prints them over the translation eda2876c06d9a8c0… (all of the seat's roots in one cut). By AI agents, Wed Nov 11 2026. No macro, syntax, notation, axiom, sorry.
-/
import Derived.Test.YtcbocglakielnaaChecked
import GoSem.Claim
import GoSem.ClaimJoined
import GoSem.ClaimMapViews
import Derived.JoinedTies
import Derived.KernelRfl
namespace Go.Proofs.Ytcbocglakielnaa
/- THE CELL 'sum', in the pinned program and in every row, IS THE sha256 OF THE DUMP (.gsa) THAT YtcbocglakielnaaProg.lean LOADS. Nothing in Lean hashes anything: it is a label: what it is worth is what the hold of that sum in a sandbox is worth. -/
noncomputable def Try.pinned : Pinned := { name := "ytcbocglakielnaa", sum := "eda2876c06d9a8c0ab78977226dd84ad3b3d75031e87f2702a423d738c6ce211", checked := Try.checked }
namespace Rows
def none {H : Type} : Left H := { results := [], args := [] }

/-- 'netcalculuslaw06.RemainderAnswers': WHATEVER THE INPUT: true; the input reads as it did. -/
def remainderAnswersSpec : ChangeSpec := { name := "remainderAnswers", fn := fun _ => fun
  | [d1, d2, d3] => { results := [.lit (.bool true)], args := [d1, d2, d3] }
  | _ => none }
def remainderAnswersRow : OpenClaim := { program := "ytcbocglakielnaa", sum := "eda2876c06d9a8c0ab78977226dd84ad3b3d75031e87f2702a423d738c6ce211", func := "netcalculus/netcalculuslaw06.RemainderAnswers", spec := "remainderAnswers", unfollowed := true, recurses := true, apart := false }
def RemainderAnswersSaid : Prop := remainderAnswersRow.holds Try.pinned (OpenSpec.ofChange remainderAnswersSpec)

/-- ITS FALSE NEIGHBOUR: 'it returns false'. Refute it at one input. -/
def remainderAnswersWrong : ChangeSpec := { name := "remainderAnswers", fn := fun _ => fun
  | [d1, d2, d3] => { results := [.lit (.bool false)], args := [d1, d2, d3] }
  | _ => none }
def RemainderAnswersWrongFalsely : Prop := remainderAnswersRow.holds Try.pinned (OpenSpec.ofChange remainderAnswersWrong)

/-- 'netcalculuslaw06.RemainderLeast': WHATEVER THE INPUT: true; the input reads as it did. -/
def remainderLeastSpec : ChangeSpec := { name := "remainderLeast", fn := fun _ => fun
  | [d] => { results := [.lit (.bool true)], args := [d] }
  | _ => none }
def remainderLeastRow : OpenClaim := { program := "ytcbocglakielnaa", sum := "eda2876c06d9a8c0ab78977226dd84ad3b3d75031e87f2702a423d738c6ce211", func := "netcalculus/netcalculuslaw06.RemainderLeast", spec := "remainderLeast", unfollowed := true, recurses := true, apart := false }
def RemainderLeastSaid : Prop := remainderLeastRow.holds Try.pinned (OpenSpec.ofChange remainderLeastSpec)

/-- ITS FALSE NEIGHBOUR: 'it returns false'. Refute it at one input. -/
def remainderLeastWrong : ChangeSpec := { name := "remainderLeast", fn := fun _ => fun
  | [d] => { results := [.lit (.bool false)], args := [d] }
  | _ => none }
def RemainderLeastWrongFalsely : Prop := remainderLeastRow.holds Try.pinned (OpenSpec.ofChange remainderLeastWrong)

/-- 'netcalculuslaw06.RemainderGreatest': WHATEVER THE INPUT: true; the input reads as it did. -/
def remainderGreatestSpec : ChangeSpec := { name := "remainderGreatest", fn := fun _ => fun
  | [d] => { results := [.lit (.bool true)], args := [d] }
  | _ => none }
def remainderGreatestRow : OpenClaim := { program := "ytcbocglakielnaa", sum := "eda2876c06d9a8c0ab78977226dd84ad3b3d75031e87f2702a423d738c6ce211", func := "netcalculus/netcalculuslaw06.RemainderGreatest", spec := "remainderGreatest", unfollowed := true, recurses := true, apart := false }
def RemainderGreatestSaid : Prop := remainderGreatestRow.holds Try.pinned (OpenSpec.ofChange remainderGreatestSpec)

/-- ITS FALSE NEIGHBOUR: 'it returns false'. Refute it at one input. -/
def remainderGreatestWrong : ChangeSpec := { name := "remainderGreatest", fn := fun _ => fun
  | [d] => { results := [.lit (.bool false)], args := [d] }
  | _ => none }
def RemainderGreatestWrongFalsely : Prop := remainderGreatestRow.holds Try.pinned (OpenSpec.ofChange remainderGreatestWrong)

/-- 'netcalculuslaw07.ConvolutionAnswers': WHATEVER THE INPUT: true; the input reads as it did. -/
def convolutionAnswersSpec : ChangeSpec := { name := "convolutionAnswers", fn := fun _ => fun
  | [d1, d2, d3] => { results := [.lit (.bool true)], args := [d1, d2, d3] }
  | _ => none }
def convolutionAnswersRow : OpenClaim := { program := "ytcbocglakielnaa", sum := "eda2876c06d9a8c0ab78977226dd84ad3b3d75031e87f2702a423d738c6ce211", func := "netcalculus/netcalculuslaw07.ConvolutionAnswers", spec := "convolutionAnswers", unfollowed := true, recurses := true, apart := false }
def ConvolutionAnswersSaid : Prop := convolutionAnswersRow.holds Try.pinned (OpenSpec.ofChange convolutionAnswersSpec)

/-- ITS FALSE NEIGHBOUR: 'it returns false'. Refute it at one input. -/
def convolutionAnswersWrong : ChangeSpec := { name := "convolutionAnswers", fn := fun _ => fun
  | [d1, d2, d3] => { results := [.lit (.bool false)], args := [d1, d2, d3] }
  | _ => none }
def ConvolutionAnswersWrongFalsely : Prop := convolutionAnswersRow.holds Try.pinned (OpenSpec.ofChange convolutionAnswersWrong)

/-- 'netcalculuslaw08.DeconvolutionAnswers': WHATEVER THE INPUT: true; the input reads as it did. -/
def deconvolutionAnswersSpec : ChangeSpec := { name := "deconvolutionAnswers", fn := fun _ => fun
  | [d1, d2, d3] => { results := [.lit (.bool true)], args := [d1, d2, d3] }
  | _ => none }
def deconvolutionAnswersRow : OpenClaim := { program := "ytcbocglakielnaa", sum := "eda2876c06d9a8c0ab78977226dd84ad3b3d75031e87f2702a423d738c6ce211", func := "netcalculus/netcalculuslaw08.DeconvolutionAnswers", spec := "deconvolutionAnswers", unfollowed := true, recurses := true, apart := false }
def DeconvolutionAnswersSaid : Prop := deconvolutionAnswersRow.holds Try.pinned (OpenSpec.ofChange deconvolutionAnswersSpec)

/-- ITS FALSE NEIGHBOUR: 'it returns false'. Refute it at one input. -/
def deconvolutionAnswersWrong : ChangeSpec := { name := "deconvolutionAnswers", fn := fun _ => fun
  | [d1, d2, d3] => { results := [.lit (.bool false)], args := [d1, d2, d3] }
  | _ => none }
def DeconvolutionAnswersWrongFalsely : Prop := deconvolutionAnswersRow.holds Try.pinned (OpenSpec.ofChange deconvolutionAnswersWrong)

/-- 'netcalculuslaw08.DeconvolutionChecks': WHATEVER THE INPUT: true; the input reads as it did. -/
def deconvolutionChecksSpec : ChangeSpec := { name := "deconvolutionChecks", fn := fun _ => fun
  | [d1, d2, d3, d4] => { results := [.lit (.bool true)], args := [d1, d2, d3, d4] }
  | _ => none }
def deconvolutionChecksRow : OpenClaim := { program := "ytcbocglakielnaa", sum := "eda2876c06d9a8c0ab78977226dd84ad3b3d75031e87f2702a423d738c6ce211", func := "netcalculus/netcalculuslaw08.DeconvolutionChecks", spec := "deconvolutionChecks", unfollowed := true, recurses := true, apart := false }
def DeconvolutionChecksSaid : Prop := deconvolutionChecksRow.holds Try.pinned (OpenSpec.ofChange deconvolutionChecksSpec)

/-- ITS FALSE NEIGHBOUR: 'it returns false'. Refute it at one input. -/
def deconvolutionChecksWrong : ChangeSpec := { name := "deconvolutionChecks", fn := fun _ => fun
  | [d1, d2, d3, d4] => { results := [.lit (.bool false)], args := [d1, d2, d3, d4] }
  | _ => none }
def DeconvolutionChecksWrongFalsely : Prop := deconvolutionChecksRow.holds Try.pinned (OpenSpec.ofChange deconvolutionChecksWrong)

/-- 'netcalculuslaw08.DeconvolutionAdjoint': WHATEVER THE INPUT: true; the input reads as it did. -/
def deconvolutionAdjointSpec : ChangeSpec := { name := "deconvolutionAdjoint", fn := fun _ => fun
  | [d] => { results := [.lit (.bool true)], args := [d] }
  | _ => none }
def deconvolutionAdjointRow : OpenClaim := { program := "ytcbocglakielnaa", sum := "eda2876c06d9a8c0ab78977226dd84ad3b3d75031e87f2702a423d738c6ce211", func := "netcalculus/netcalculuslaw08.DeconvolutionAdjoint", spec := "deconvolutionAdjoint", unfollowed := true, recurses := true, apart := false }
def DeconvolutionAdjointSaid : Prop := deconvolutionAdjointRow.holds Try.pinned (OpenSpec.ofChange deconvolutionAdjointSpec)

/-- ITS FALSE NEIGHBOUR: 'it returns false'. Refute it at one input. -/
def deconvolutionAdjointWrong : ChangeSpec := { name := "deconvolutionAdjoint", fn := fun _ => fun
  | [d] => { results := [.lit (.bool false)], args := [d] }
  | _ => none }
def DeconvolutionAdjointWrongFalsely : Prop := deconvolutionAdjointRow.holds Try.pinned (OpenSpec.ofChange deconvolutionAdjointWrong)

/-- 'netcalculuslaw08.DeconvolutionTwice': WHATEVER THE INPUT: true; the input reads as it did. -/
def deconvolutionTwiceSpec : ChangeSpec := { name := "deconvolutionTwice", fn := fun _ => fun
  | [d] => { results := [.lit (.bool true)], args := [d] }
  | _ => none }
def deconvolutionTwiceRow : OpenClaim := { program := "ytcbocglakielnaa", sum := "eda2876c06d9a8c0ab78977226dd84ad3b3d75031e87f2702a423d738c6ce211", func := "netcalculus/netcalculuslaw08.DeconvolutionTwice", spec := "deconvolutionTwice", unfollowed := true, recurses := true, apart := false }
def DeconvolutionTwiceSaid : Prop := deconvolutionTwiceRow.holds Try.pinned (OpenSpec.ofChange deconvolutionTwiceSpec)

/-- ITS FALSE NEIGHBOUR: 'it returns false'. Refute it at one input. -/
def deconvolutionTwiceWrong : ChangeSpec := { name := "deconvolutionTwice", fn := fun _ => fun
  | [d] => { results := [.lit (.bool false)], args := [d] }
  | _ => none }
def DeconvolutionTwiceWrongFalsely : Prop := deconvolutionTwiceRow.holds Try.pinned (OpenSpec.ofChange deconvolutionTwiceWrong)

/-- 'netcalculuslaw08.DeconvolutionMonotone': WHATEVER THE INPUT: true; the input reads as it did. -/
def deconvolutionMonotoneSpec : ChangeSpec := { name := "deconvolutionMonotone", fn := fun _ => fun
  | [d] => { results := [.lit (.bool true)], args := [d] }
  | _ => none }
def deconvolutionMonotoneRow : OpenClaim := { program := "ytcbocglakielnaa", sum := "eda2876c06d9a8c0ab78977226dd84ad3b3d75031e87f2702a423d738c6ce211", func := "netcalculus/netcalculuslaw08.DeconvolutionMonotone", spec := "deconvolutionMonotone", unfollowed := true, recurses := true, apart := false }
def DeconvolutionMonotoneSaid : Prop := deconvolutionMonotoneRow.holds Try.pinned (OpenSpec.ofChange deconvolutionMonotoneSpec)

/-- ITS FALSE NEIGHBOUR: 'it returns false'. Refute it at one input. -/
def deconvolutionMonotoneWrong : ChangeSpec := { name := "deconvolutionMonotone", fn := fun _ => fun
  | [d] => { results := [.lit (.bool false)], args := [d] }
  | _ => none }
def DeconvolutionMonotoneWrongFalsely : Prop := deconvolutionMonotoneRow.holds Try.pinned (OpenSpec.ofChange deconvolutionMonotoneWrong)

/-- 'netcalculuslaw08.DeconvolutionWaits': WHATEVER THE INPUT: true; the input reads as it did. -/
def deconvolutionWaitsSpec : ChangeSpec := { name := "deconvolutionWaits", fn := fun _ => fun
  | [d1, d2] => { results := [.lit (.bool true)], args := [d1, d2] }
  | _ => none }
def deconvolutionWaitsRow : OpenClaim := { program := "ytcbocglakielnaa", sum := "eda2876c06d9a8c0ab78977226dd84ad3b3d75031e87f2702a423d738c6ce211", func := "netcalculus/netcalculuslaw08.DeconvolutionWaits", spec := "deconvolutionWaits", unfollowed := true, recurses := true, apart := false }
def DeconvolutionWaitsSaid : Prop := deconvolutionWaitsRow.holds Try.pinned (OpenSpec.ofChange deconvolutionWaitsSpec)

/-- ITS FALSE NEIGHBOUR: 'it returns false'. Refute it at one input. -/
def deconvolutionWaitsWrong : ChangeSpec := { name := "deconvolutionWaits", fn := fun _ => fun
  | [d1, d2] => { results := [.lit (.bool false)], args := [d1, d2] }
  | _ => none }
def DeconvolutionWaitsWrongFalsely : Prop := deconvolutionWaitsRow.holds Try.pinned (OpenSpec.ofChange deconvolutionWaitsWrong)

/- THE SECOND FORM. 'bulk': how many values and letters a reading holds, each counted each time it is reached (what is shared counts as often as it is met; a slice's spare places count too). A statement '..UptoSaid' is the law's where the arguments, and the package variables that the reading takes, are together of bulk at most 1048576: NARROWER than '..Said'. Prove '..Said' where nothing that the law and all that it calls make is longer than what came in: it says more and counts as full. Else prove '..UptoSaid'. A law counts once. -/
mutual
def uptoBulk {H : Type} : DataW H → Nat
  | .lit (.string bytes) => bytes.length + 1
  | .lit _ => 1
  | .nil => 1
  | .ptr d => uptoBulk d + 1
  | .slice elems spare => uptoBulkAll elems + uptoBulkAll spare + 1
  | .agg parts => uptoBulkAll parts + 1
  | .iface _ d => uptoBulk d + 1
  | .map entries => uptoBulkEntries entries + 1
  | .held _ => 1
def uptoBulkAll {H : Type} : List (DataW H) → Nat
  | [] => 0
  | d :: r => uptoBulk d + uptoBulkAll r
def uptoBulkEntries {H : Type} : List (Lit × DataW H) → Nat
  | [] => 0
  | x :: r => uptoBulkEntry x + uptoBulkEntries r
def uptoBulkEntry {H : Type} : Lit × DataW H → Nat
  | (.string bytes, d) => bytes.length + uptoBulk d + 1
  | (_, d) => uptoBulk d + 1
 end
def uptoSmall : (H : Type) → List (DataW H) → Bool := fun _ ds => decide (uptoBulkAll ds ≤ 1048576)
def OpenSpec.upto (s : _root_.Go.ChangeSpec) : _root_.Go.OpenSpec := { _root_.Go.OpenSpec.ofChange s with cond := some uptoSmall }

/-- 'netcalculuslaw06.RemainderAnswers', WHERE WHAT IT READS IS OF BULK AT MOST 1048576: true; the input reads as it did. -/
def remainderAnswersUptoRow : OpenClaim := { program := "ytcbocglakielnaa", sum := "eda2876c06d9a8c0ab78977226dd84ad3b3d75031e87f2702a423d738c6ce211", func := "netcalculus/netcalculuslaw06.RemainderAnswers", spec := "remainderAnswers", unfollowed := true, recurses := true, apart := false, narrowed := true }
def RemainderAnswersUptoSaid : Prop := remainderAnswersUptoRow.holds Try.pinned (OpenSpec.upto remainderAnswersSpec)

/-- 'netcalculuslaw06.RemainderLeast', WHERE WHAT IT READS IS OF BULK AT MOST 1048576: true; the input reads as it did. -/
def remainderLeastUptoRow : OpenClaim := { program := "ytcbocglakielnaa", sum := "eda2876c06d9a8c0ab78977226dd84ad3b3d75031e87f2702a423d738c6ce211", func := "netcalculus/netcalculuslaw06.RemainderLeast", spec := "remainderLeast", unfollowed := true, recurses := true, apart := false, narrowed := true }
def RemainderLeastUptoSaid : Prop := remainderLeastUptoRow.holds Try.pinned (OpenSpec.upto remainderLeastSpec)

/-- 'netcalculuslaw06.RemainderGreatest', WHERE WHAT IT READS IS OF BULK AT MOST 1048576: true; the input reads as it did. -/
def remainderGreatestUptoRow : OpenClaim := { program := "ytcbocglakielnaa", sum := "eda2876c06d9a8c0ab78977226dd84ad3b3d75031e87f2702a423d738c6ce211", func := "netcalculus/netcalculuslaw06.RemainderGreatest", spec := "remainderGreatest", unfollowed := true, recurses := true, apart := false, narrowed := true }
def RemainderGreatestUptoSaid : Prop := remainderGreatestUptoRow.holds Try.pinned (OpenSpec.upto remainderGreatestSpec)

/-- 'netcalculuslaw07.ConvolutionAnswers', WHERE WHAT IT READS IS OF BULK AT MOST 1048576: true; the input reads as it did. -/
def convolutionAnswersUptoRow : OpenClaim := { program := "ytcbocglakielnaa", sum := "eda2876c06d9a8c0ab78977226dd84ad3b3d75031e87f2702a423d738c6ce211", func := "netcalculus/netcalculuslaw07.ConvolutionAnswers", spec := "convolutionAnswers", unfollowed := true, recurses := true, apart := false, narrowed := true }
def ConvolutionAnswersUptoSaid : Prop := convolutionAnswersUptoRow.holds Try.pinned (OpenSpec.upto convolutionAnswersSpec)

/-- 'netcalculuslaw08.DeconvolutionAnswers', WHERE WHAT IT READS IS OF BULK AT MOST 1048576: true; the input reads as it did. -/
def deconvolutionAnswersUptoRow : OpenClaim := { program := "ytcbocglakielnaa", sum := "eda2876c06d9a8c0ab78977226dd84ad3b3d75031e87f2702a423d738c6ce211", func := "netcalculus/netcalculuslaw08.DeconvolutionAnswers", spec := "deconvolutionAnswers", unfollowed := true, recurses := true, apart := false, narrowed := true }
def DeconvolutionAnswersUptoSaid : Prop := deconvolutionAnswersUptoRow.holds Try.pinned (OpenSpec.upto deconvolutionAnswersSpec)

/-- 'netcalculuslaw08.DeconvolutionChecks', WHERE WHAT IT READS IS OF BULK AT MOST 1048576: true; the input reads as it did. -/
def deconvolutionChecksUptoRow : OpenClaim := { program := "ytcbocglakielnaa", sum := "eda2876c06d9a8c0ab78977226dd84ad3b3d75031e87f2702a423d738c6ce211", func := "netcalculus/netcalculuslaw08.DeconvolutionChecks", spec := "deconvolutionChecks", unfollowed := true, recurses := true, apart := false, narrowed := true }
def DeconvolutionChecksUptoSaid : Prop := deconvolutionChecksUptoRow.holds Try.pinned (OpenSpec.upto deconvolutionChecksSpec)

/-- 'netcalculuslaw08.DeconvolutionAdjoint', WHERE WHAT IT READS IS OF BULK AT MOST 1048576: true; the input reads as it did. -/
def deconvolutionAdjointUptoRow : OpenClaim := { program := "ytcbocglakielnaa", sum := "eda2876c06d9a8c0ab78977226dd84ad3b3d75031e87f2702a423d738c6ce211", func := "netcalculus/netcalculuslaw08.DeconvolutionAdjoint", spec := "deconvolutionAdjoint", unfollowed := true, recurses := true, apart := false, narrowed := true }
def DeconvolutionAdjointUptoSaid : Prop := deconvolutionAdjointUptoRow.holds Try.pinned (OpenSpec.upto deconvolutionAdjointSpec)

/-- 'netcalculuslaw08.DeconvolutionTwice', WHERE WHAT IT READS IS OF BULK AT MOST 1048576: true; the input reads as it did. -/
def deconvolutionTwiceUptoRow : OpenClaim := { program := "ytcbocglakielnaa", sum := "eda2876c06d9a8c0ab78977226dd84ad3b3d75031e87f2702a423d738c6ce211", func := "netcalculus/netcalculuslaw08.DeconvolutionTwice", spec := "deconvolutionTwice", unfollowed := true, recurses := true, apart := false, narrowed := true }
def DeconvolutionTwiceUptoSaid : Prop := deconvolutionTwiceUptoRow.holds Try.pinned (OpenSpec.upto deconvolutionTwiceSpec)

/-- 'netcalculuslaw08.DeconvolutionMonotone', WHERE WHAT IT READS IS OF BULK AT MOST 1048576: true; the input reads as it did. -/
def deconvolutionMonotoneUptoRow : OpenClaim := { program := "ytcbocglakielnaa", sum := "eda2876c06d9a8c0ab78977226dd84ad3b3d75031e87f2702a423d738c6ce211", func := "netcalculus/netcalculuslaw08.DeconvolutionMonotone", spec := "deconvolutionMonotone", unfollowed := true, recurses := true, apart := false, narrowed := true }
def DeconvolutionMonotoneUptoSaid : Prop := deconvolutionMonotoneUptoRow.holds Try.pinned (OpenSpec.upto deconvolutionMonotoneSpec)

/-- 'netcalculuslaw08.DeconvolutionWaits', WHERE WHAT IT READS IS OF BULK AT MOST 1048576: true; the input reads as it did. -/
def deconvolutionWaitsUptoRow : OpenClaim := { program := "ytcbocglakielnaa", sum := "eda2876c06d9a8c0ab78977226dd84ad3b3d75031e87f2702a423d738c6ce211", func := "netcalculus/netcalculuslaw08.DeconvolutionWaits", spec := "deconvolutionWaits", unfollowed := true, recurses := true, apart := false, narrowed := true }
def DeconvolutionWaitsUptoSaid : Prop := deconvolutionWaitsUptoRow.holds Try.pinned (OpenSpec.upto deconvolutionWaitsSpec)

end Rows
end Go.Proofs.Ytcbocglakielnaa
