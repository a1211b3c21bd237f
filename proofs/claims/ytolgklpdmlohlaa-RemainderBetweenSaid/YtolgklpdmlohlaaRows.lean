/-
  No cell of these rows narrows 'for every input' (looked for: loops, veiled, ifaces, maps, wideKeys, modest, calm, conditions, laid).
  DERIVED. THE GIVEN ROWS OF THIS SEAT. 6 by the template 'for every input the law returns true; each argument reads behind the call as it read before'; 0 by the template 'total and deterministic' (their statements: YtolgklpdmlohlaaTotals.lean).
  GIVEN WITH THE SEED: the statements are not yours to turn. If you find one false, say at which input.
  Laid BY PROGRAM, IN A SANDBOX (cutbox-rows.mjs): the forced cells as the released guide's own fill.sh prints them over the translation f05a8606623b29c9… (all of the seat's roots in one cut). By AI agents, Wed Nov 11 2026. No macro, syntax, notation, axiom, sorry.
-/
import Derived.Test.YtolgklpdmlohlaaChecked
import GoSem.Claim
import GoSem.ClaimJoined
import GoSem.ClaimMapViews
import Derived.JoinedTies
import Derived.KernelRfl
namespace Go.Proofs.Ytolgklpdmlohlaa
/- THE CELL 'sum', in the pinned program and in every row, IS THE sha256 OF THE DUMP (.gsa) THAT YtolgklpdmlohlaaProg.lean LOADS. Nothing in Lean hashes anything: it is a label: what it is worth is what the hold of that sum in a sandbox is worth. -/
noncomputable def Try.pinned : Pinned := { name := "ytolgklpdmlohlaa", sum := "f05a8606623b29c9557e950de73ba40cb2b755e1001d3372761f1c634e4a5365", checked := Try.checked }
namespace Rows
def none {H : Type} : Left H := { results := [], args := [] }

/-- 'netcalculuslaw06.RemainderAnswers': WHATEVER THE INPUT: true; the input reads as it did. -/
def remainderAnswersSpec : ChangeSpec := { name := "remainderAnswers", fn := fun _ => fun
  | [d1, d2, d3] => { results := [.lit (.bool true)], args := [d1, d2, d3] }
  | _ => none }
def remainderAnswersRow : OpenClaim := { program := "ytolgklpdmlohlaa", sum := "f05a8606623b29c9557e950de73ba40cb2b755e1001d3372761f1c634e4a5365", func := "netcalculus/netcalculuslaw06.RemainderAnswers", spec := "remainderAnswers", unfollowed := true, recurses := true, apart := false }
def RemainderAnswersSaid : Prop := remainderAnswersRow.holds Try.pinned (OpenSpec.ofChange remainderAnswersSpec)

/-- ITS FALSE NEIGHBOUR: 'it returns false'. Refute it at one input. -/
def remainderAnswersWrong : ChangeSpec := { name := "remainderAnswers", fn := fun _ => fun
  | [d1, d2, d3] => { results := [.lit (.bool false)], args := [d1, d2, d3] }
  | _ => none }
def RemainderAnswersWrongFalsely : Prop := remainderAnswersRow.holds Try.pinned (OpenSpec.ofChange remainderAnswersWrong)

/-- 'netcalculuslaw06.RemainderValues': WHATEVER THE INPUT: true; the input reads as it did. -/
def remainderValuesSpec : ChangeSpec := { name := "remainderValues", fn := fun _ => fun
  | [d1, d2] => { results := [.lit (.bool true)], args := [d1, d2] }
  | _ => none }
def remainderValuesRow : OpenClaim := { program := "ytolgklpdmlohlaa", sum := "f05a8606623b29c9557e950de73ba40cb2b755e1001d3372761f1c634e4a5365", func := "netcalculus/netcalculuslaw06.RemainderValues", spec := "remainderValues", unfollowed := true, recurses := true, apart := false }
def RemainderValuesSaid : Prop := remainderValuesRow.holds Try.pinned (OpenSpec.ofChange remainderValuesSpec)

/-- ITS FALSE NEIGHBOUR: 'it returns false'. Refute it at one input. -/
def remainderValuesWrong : ChangeSpec := { name := "remainderValues", fn := fun _ => fun
  | [d1, d2] => { results := [.lit (.bool false)], args := [d1, d2] }
  | _ => none }
def RemainderValuesWrongFalsely : Prop := remainderValuesRow.holds Try.pinned (OpenSpec.ofChange remainderValuesWrong)

/-- 'netcalculuslaw06.RemainderBetween': WHATEVER THE INPUT: true; the input reads as it did. -/
def remainderBetweenSpec : ChangeSpec := { name := "remainderBetween", fn := fun _ => fun
  | [d1, d2] => { results := [.lit (.bool true)], args := [d1, d2] }
  | _ => none }
def remainderBetweenRow : OpenClaim := { program := "ytolgklpdmlohlaa", sum := "f05a8606623b29c9557e950de73ba40cb2b755e1001d3372761f1c634e4a5365", func := "netcalculus/netcalculuslaw06.RemainderBetween", spec := "remainderBetween", unfollowed := true, recurses := true, apart := false }
def RemainderBetweenSaid : Prop := remainderBetweenRow.holds Try.pinned (OpenSpec.ofChange remainderBetweenSpec)

/-- ITS FALSE NEIGHBOUR: 'it returns false'. Refute it at one input. -/
def remainderBetweenWrong : ChangeSpec := { name := "remainderBetween", fn := fun _ => fun
  | [d1, d2] => { results := [.lit (.bool false)], args := [d1, d2] }
  | _ => none }
def RemainderBetweenWrongFalsely : Prop := remainderBetweenRow.holds Try.pinned (OpenSpec.ofChange remainderBetweenWrong)

/-- 'netcalculuslaw06.RemainderMonotone': WHATEVER THE INPUT: true; the input reads as it did. -/
def remainderMonotoneSpec : ChangeSpec := { name := "remainderMonotone", fn := fun _ => fun
  | [d] => { results := [.lit (.bool true)], args := [d] }
  | _ => none }
def remainderMonotoneRow : OpenClaim := { program := "ytolgklpdmlohlaa", sum := "f05a8606623b29c9557e950de73ba40cb2b755e1001d3372761f1c634e4a5365", func := "netcalculus/netcalculuslaw06.RemainderMonotone", spec := "remainderMonotone", unfollowed := true, recurses := true, apart := false }
def RemainderMonotoneSaid : Prop := remainderMonotoneRow.holds Try.pinned (OpenSpec.ofChange remainderMonotoneSpec)

/-- ITS FALSE NEIGHBOUR: 'it returns false'. Refute it at one input. -/
def remainderMonotoneWrong : ChangeSpec := { name := "remainderMonotone", fn := fun _ => fun
  | [d] => { results := [.lit (.bool false)], args := [d] }
  | _ => none }
def RemainderMonotoneWrongFalsely : Prop := remainderMonotoneRow.holds Try.pinned (OpenSpec.ofChange remainderMonotoneWrong)

/-- 'netcalculuslaw06.RemainderLeast': WHATEVER THE INPUT: true; the input reads as it did. -/
def remainderLeastSpec : ChangeSpec := { name := "remainderLeast", fn := fun _ => fun
  | [d] => { results := [.lit (.bool true)], args := [d] }
  | _ => none }
def remainderLeastRow : OpenClaim := { program := "ytolgklpdmlohlaa", sum := "f05a8606623b29c9557e950de73ba40cb2b755e1001d3372761f1c634e4a5365", func := "netcalculus/netcalculuslaw06.RemainderLeast", spec := "remainderLeast", unfollowed := true, recurses := true, apart := false }
def RemainderLeastSaid : Prop := remainderLeastRow.holds Try.pinned (OpenSpec.ofChange remainderLeastSpec)

/-- ITS FALSE NEIGHBOUR: 'it returns false'. Refute it at one input. -/
def remainderLeastWrong : ChangeSpec := { name := "remainderLeast", fn := fun _ => fun
  | [d] => { results := [.lit (.bool false)], args := [d] }
  | _ => none }
def RemainderLeastWrongFalsely : Prop := remainderLeastRow.holds Try.pinned (OpenSpec.ofChange remainderLeastWrong)

/-- 'netcalculuslaw06.RemainderGreatest': WHATEVER THE INPUT: true; the input reads as it did. -/
def remainderGreatestSpec : ChangeSpec := { name := "remainderGreatest", fn := fun _ => fun
  | [d] => { results := [.lit (.bool true)], args := [d] }
  | _ => none }
def remainderGreatestRow : OpenClaim := { program := "ytolgklpdmlohlaa", sum := "f05a8606623b29c9557e950de73ba40cb2b755e1001d3372761f1c634e4a5365", func := "netcalculus/netcalculuslaw06.RemainderGreatest", spec := "remainderGreatest", unfollowed := true, recurses := true, apart := false }
def RemainderGreatestSaid : Prop := remainderGreatestRow.holds Try.pinned (OpenSpec.ofChange remainderGreatestSpec)

/-- ITS FALSE NEIGHBOUR: 'it returns false'. Refute it at one input. -/
def remainderGreatestWrong : ChangeSpec := { name := "remainderGreatest", fn := fun _ => fun
  | [d] => { results := [.lit (.bool false)], args := [d] }
  | _ => none }
def RemainderGreatestWrongFalsely : Prop := remainderGreatestRow.holds Try.pinned (OpenSpec.ofChange remainderGreatestWrong)

/- THE SECOND FORM. 'bulk': how many values and letters a reading holds, each counted each time it is reached (what is shared counts as often as it is met; a slice's spare places count too). A statement '..UptoSaid' is the law's where the arguments, and the package variables that the reading takes, are together of bulk at most 1048576: NARROWER than '..Said'. Prove '..Said' where nothing that the law and all that it calls make is longer than what came in: it says more and counts as full. Else prove '..UptoSaid'. A law counts once. -/
mutual
def uptoBulk {H : Type} : DataW H → Nat
  | .lit (.string bytes) => bytes.length + 1
  | .lit _ => 1
  | .nil => 1
  | .ptr d => uptoBulk d + 1
  | .slice elems spare => uptoBulkAll elems + uptoBulkAll spare + 1
  | .agg parts => uptoBulkAll parts + 1
  | .iface _ d => uptoBulk d + 1
  | .map entries => uptoBulkEntries entries + 1
  | .held _ => 1
def uptoBulkAll {H : Type} : List (DataW H) → Nat
  | [] => 0
  | d :: r => uptoBulk d + uptoBulkAll r
def uptoBulkEntries {H : Type} : List (Lit × DataW H) → Nat
  | [] => 0
  | x :: r => uptoBulkEntry x + uptoBulkEntries r
def uptoBulkEntry {H : Type} : Lit × DataW H → Nat
  | (.string bytes, d) => bytes.length + uptoBulk d + 1
  | (_, d) => uptoBulk d + 1
 end
def uptoSmall : (H : Type) → List (DataW H) → Bool := fun _ ds => decide (uptoBulkAll ds ≤ 1048576)
def OpenSpec.upto (s : _root_.Go.ChangeSpec) : _root_.Go.OpenSpec := { _root_.Go.OpenSpec.ofChange s with cond := some uptoSmall }

/-- 'netcalculuslaw06.RemainderAnswers', WHERE WHAT IT READS IS OF BULK AT MOST 1048576: true; the input reads as it did. -/
def remainderAnswersUptoRow : OpenClaim := { program := "ytolgklpdmlohlaa", sum := "f05a8606623b29c9557e950de73ba40cb2b755e1001d3372761f1c634e4a5365", func := "netcalculus/netcalculuslaw06.RemainderAnswers", spec := "remainderAnswers", unfollowed := true, recurses := true, apart := false, narrowed := true }
def RemainderAnswersUptoSaid : Prop := remainderAnswersUptoRow.holds Try.pinned (OpenSpec.upto remainderAnswersSpec)

/-- 'netcalculuslaw06.RemainderValues', WHERE WHAT IT READS IS OF BULK AT MOST 1048576: true; the input reads as it did. -/
def remainderValuesUptoRow : OpenClaim := { program := "ytolgklpdmlohlaa", sum := "f05a8606623b29c9557e950de73ba40cb2b755e1001d3372761f1c634e4a5365", func := "netcalculus/netcalculuslaw06.RemainderValues", spec := "remainderValues", unfollowed := true, recurses := true, apart := false, narrowed := true }
def RemainderValuesUptoSaid : Prop := remainderValuesUptoRow.holds Try.pinned (OpenSpec.upto remainderValuesSpec)

/-- 'netcalculuslaw06.RemainderBetween', WHERE WHAT IT READS IS OF BULK AT MOST 1048576: true; the input reads as it did. -/
def remainderBetweenUptoRow : OpenClaim := { program := "ytolgklpdmlohlaa", sum := "f05a8606623b29c9557e950de73ba40cb2b755e1001d3372761f1c634e4a5365", func := "netcalculus/netcalculuslaw06.RemainderBetween", spec := "remainderBetween", unfollowed := true, recurses := true, apart := false, narrowed := true }
def RemainderBetweenUptoSaid : Prop := remainderBetweenUptoRow.holds Try.pinned (OpenSpec.upto remainderBetweenSpec)

/-- 'netcalculuslaw06.RemainderMonotone', WHERE WHAT IT READS IS OF BULK AT MOST 1048576: true; the input reads as it did. -/
def remainderMonotoneUptoRow : OpenClaim := { program := "ytolgklpdmlohlaa", sum := "f05a8606623b29c9557e950de73ba40cb2b755e1001d3372761f1c634e4a5365", func := "netcalculus/netcalculuslaw06.RemainderMonotone", spec := "remainderMonotone", unfollowed := true, recurses := true, apart := false, narrowed := true }
def RemainderMonotoneUptoSaid : Prop := remainderMonotoneUptoRow.holds Try.pinned (OpenSpec.upto remainderMonotoneSpec)

/-- 'netcalculuslaw06.RemainderLeast', WHERE WHAT IT READS IS OF BULK AT MOST 1048576: true; the input reads as it did. -/
def remainderLeastUptoRow : OpenClaim := { program := "ytolgklpdmlohlaa", sum := "f05a8606623b29c9557e950de73ba40cb2b755e1001d3372761f1c634e4a5365", func := "netcalculus/netcalculuslaw06.RemainderLeast", spec := "remainderLeast", unfollowed := true, recurses := true, apart := false, narrowed := true }
def RemainderLeastUptoSaid : Prop := remainderLeastUptoRow.holds Try.pinned (OpenSpec.upto remainderLeastSpec)

/-- 'netcalculuslaw06.RemainderGreatest', WHERE WHAT IT READS IS OF BULK AT MOST 1048576: true; the input reads as it did. -/
def remainderGreatestUptoRow : OpenClaim := { program := "ytolgklpdmlohlaa", sum := "f05a8606623b29c9557e950de73ba40cb2b755e1001d3372761f1c634e4a5365", func := "netcalculus/netcalculuslaw06.RemainderGreatest", spec := "remainderGreatest", unfollowed := true, recurses := true, apart := false, narrowed := true }
def RemainderGreatestUptoSaid : Prop := remainderGreatestUptoRow.holds Try.pinned (OpenSpec.upto remainderGreatestSpec)

end Rows
end Go.Proofs.Ytolgklpdmlohlaa
