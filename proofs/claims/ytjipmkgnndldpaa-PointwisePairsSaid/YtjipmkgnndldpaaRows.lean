/-
  No cell of these rows narrows 'for every input' (looked for: loops, veiled, ifaces, maps, wideKeys, modest, calm, conditions, laid).
  DERIVED. THE GIVEN ROWS OF THIS SEAT. 12 by the template 'for every input the law returns true; each argument reads behind the call as it read before'; 0 by the template 'total and deterministic' (their statements: YtjipmkgnndldpaaTotals.lean).
  GIVEN WITH THE SEED: the statements are not yours to turn. If you find one false, say at which input.
  Laid BY PROGRAM, IN A SANDBOX (cutbox-rows.mjs): the forced cells as the released guide's own fill.sh prints them over the translation f8e47d14a63ab432… (all of the seat's roots in one cut). By AI agents, Wed Nov 11 2026. No macro, syntax, notation, axiom, sorry.
-/
import Derived.Test.YtjipmkgnndldpaaChecked
import GoSem.Claim
import GoSem.ClaimJoined
import GoSem.ClaimMapViews
import Derived.JoinedTies
import Derived.KernelRfl
namespace Go.Proofs.Ytjipmkgnndldpaa
/- THE CELL 'sum', in the pinned program and in every row, IS THE sha256 OF THE DUMP (.gsa) THAT YtjipmkgnndldpaaProg.lean LOADS. Nothing in Lean hashes anything: it is a label: what it is worth is what the hold of that sum in a sandbox is worth. -/
noncomputable def Try.pinned : Pinned := { name := "ytjipmkgnndldpaa", sum := "f8e47d14a63ab43229649f405542e510cf266a66b6a403f3405ca0a7214bbcb5", checked := Try.checked }
namespace Rows
def none {H : Type} : Left H := { results := [], args := [] }

/-- 'netcalculuslaw12.ServiceMakes': WHATEVER THE INPUT: true; the input reads as it did. -/
def serviceMakesSpec : ChangeSpec := { name := "serviceMakes", fn := fun _ => fun
  | [d1, d2, d3] => { results := [.lit (.bool true)], args := [d1, d2, d3] }
  | _ => none }
def serviceMakesRow : OpenClaim := { program := "ytjipmkgnndldpaa", sum := "f8e47d14a63ab43229649f405542e510cf266a66b6a403f3405ca0a7214bbcb5", func := "netcalculus/netcalculuslaw12.ServiceMakes", spec := "serviceMakes", unfollowed := true, recurses := true, apart := false }
def ServiceMakesSaid : Prop := serviceMakesRow.holds Try.pinned (OpenSpec.ofChange serviceMakesSpec)

/-- ITS FALSE NEIGHBOUR: 'it returns false'. Refute it at one input. -/
def serviceMakesWrong : ChangeSpec := { name := "serviceMakes", fn := fun _ => fun
  | [d1, d2, d3] => { results := [.lit (.bool false)], args := [d1, d2, d3] }
  | _ => none }
def ServiceMakesWrongFalsely : Prop := serviceMakesRow.holds Try.pinned (OpenSpec.ofChange serviceMakesWrong)

/-- 'netcalculuslaw12.ServiceNumbers': WHATEVER THE INPUT: true; the input reads as it did. -/
def serviceNumbersSpec : ChangeSpec := { name := "serviceNumbers", fn := fun _ => fun
  | [d1, d2, d3, d4] => { results := [.lit (.bool true)], args := [d1, d2, d3, d4] }
  | _ => none }
def serviceNumbersRow : OpenClaim := { program := "ytjipmkgnndldpaa", sum := "f8e47d14a63ab43229649f405542e510cf266a66b6a403f3405ca0a7214bbcb5", func := "netcalculus/netcalculuslaw12.ServiceNumbers", spec := "serviceNumbers", unfollowed := true, recurses := true, apart := false }
def ServiceNumbersSaid : Prop := serviceNumbersRow.holds Try.pinned (OpenSpec.ofChange serviceNumbersSpec)

/-- ITS FALSE NEIGHBOUR: 'it returns false'. Refute it at one input. -/
def serviceNumbersWrong : ChangeSpec := { name := "serviceNumbers", fn := fun _ => fun
  | [d1, d2, d3, d4] => { results := [.lit (.bool false)], args := [d1, d2, d3, d4] }
  | _ => none }
def ServiceNumbersWrongFalsely : Prop := serviceNumbersRow.holds Try.pinned (OpenSpec.ofChange serviceNumbersWrong)

/-- 'netcalculuslaw12.ServiceChains': WHATEVER THE INPUT: true; the input reads as it did. -/
def serviceChainsSpec : ChangeSpec := { name := "serviceChains", fn := fun _ => fun
  | [d] => { results := [.lit (.bool true)], args := [d] }
  | _ => none }
def serviceChainsRow : OpenClaim := { program := "ytjipmkgnndldpaa", sum := "f8e47d14a63ab43229649f405542e510cf266a66b6a403f3405ca0a7214bbcb5", func := "netcalculus/netcalculuslaw12.ServiceChains", spec := "serviceChains", unfollowed := true, recurses := true, apart := false }
def ServiceChainsSaid : Prop := serviceChainsRow.holds Try.pinned (OpenSpec.ofChange serviceChainsSpec)

/-- ITS FALSE NEIGHBOUR: 'it returns false'. Refute it at one input. -/
def serviceChainsWrong : ChangeSpec := { name := "serviceChains", fn := fun _ => fun
  | [d] => { results := [.lit (.bool false)], args := [d] }
  | _ => none }
def ServiceChainsWrongFalsely : Prop := serviceChainsRow.holds Try.pinned (OpenSpec.ofChange serviceChainsWrong)

/-- 'netcalculuslaw12.ServiceWaits': WHATEVER THE INPUT: true; the input reads as it did. -/
def serviceWaitsSpec : ChangeSpec := { name := "serviceWaits", fn := fun _ => fun
  | [d] => { results := [.lit (.bool true)], args := [d] }
  | _ => none }
def serviceWaitsRow : OpenClaim := { program := "ytjipmkgnndldpaa", sum := "f8e47d14a63ab43229649f405542e510cf266a66b6a403f3405ca0a7214bbcb5", func := "netcalculus/netcalculuslaw12.ServiceWaits", spec := "serviceWaits", unfollowed := true, recurses := true, apart := false }
def ServiceWaitsSaid : Prop := serviceWaitsRow.holds Try.pinned (OpenSpec.ofChange serviceWaitsSpec)

/-- ITS FALSE NEIGHBOUR: 'it returns false'. Refute it at one input. -/
def serviceWaitsWrong : ChangeSpec := { name := "serviceWaits", fn := fun _ => fun
  | [d] => { results := [.lit (.bool false)], args := [d] }
  | _ => none }
def ServiceWaitsWrongFalsely : Prop := serviceWaitsRow.holds Try.pinned (OpenSpec.ofChange serviceWaitsWrong)

/-- 'netcalculuslaw12.ServiceGrows': WHATEVER THE INPUT: true; the input reads as it did. -/
def serviceGrowsSpec : ChangeSpec := { name := "serviceGrows", fn := fun _ => fun
  | [d] => { results := [.lit (.bool true)], args := [d] }
  | _ => none }
def serviceGrowsRow : OpenClaim := { program := "ytjipmkgnndldpaa", sum := "f8e47d14a63ab43229649f405542e510cf266a66b6a403f3405ca0a7214bbcb5", func := "netcalculus/netcalculuslaw12.ServiceGrows", spec := "serviceGrows", unfollowed := true, recurses := true, apart := false }
def ServiceGrowsSaid : Prop := serviceGrowsRow.holds Try.pinned (OpenSpec.ofChange serviceGrowsSpec)

/-- ITS FALSE NEIGHBOUR: 'it returns false'. Refute it at one input. -/
def serviceGrowsWrong : ChangeSpec := { name := "serviceGrows", fn := fun _ => fun
  | [d] => { results := [.lit (.bool false)], args := [d] }
  | _ => none }
def ServiceGrowsWrongFalsely : Prop := serviceGrowsRow.holds Try.pinned (OpenSpec.ofChange serviceGrowsWrong)

/-- 'netcalculuslaw12.ServiceDelays': WHATEVER THE INPUT: true; the input reads as it did. -/
def serviceDelaysSpec : ChangeSpec := { name := "serviceDelays", fn := fun _ => fun
  | [d] => { results := [.lit (.bool true)], args := [d] }
  | _ => none }
def serviceDelaysRow : OpenClaim := { program := "ytjipmkgnndldpaa", sum := "f8e47d14a63ab43229649f405542e510cf266a66b6a403f3405ca0a7214bbcb5", func := "netcalculus/netcalculuslaw12.ServiceDelays", spec := "serviceDelays", unfollowed := true, recurses := true, apart := false }
def ServiceDelaysSaid : Prop := serviceDelaysRow.holds Try.pinned (OpenSpec.ofChange serviceDelaysSpec)

/-- ITS FALSE NEIGHBOUR: 'it returns false'. Refute it at one input. -/
def serviceDelaysWrong : ChangeSpec := { name := "serviceDelays", fn := fun _ => fun
  | [d] => { results := [.lit (.bool false)], args := [d] }
  | _ => none }
def ServiceDelaysWrongFalsely : Prop := serviceDelaysRow.holds Try.pinned (OpenSpec.ofChange serviceDelaysWrong)

/-- 'netcalculuslaw05.PointwisePairs': WHATEVER THE INPUT: true; the input reads as it did. -/
def pointwisePairsSpec : ChangeSpec := { name := "pointwisePairs", fn := fun _ => fun
  | [d1, d2, d3] => { results := [.lit (.bool true)], args := [d1, d2, d3] }
  | _ => none }
def pointwisePairsRow : OpenClaim := { program := "ytjipmkgnndldpaa", sum := "f8e47d14a63ab43229649f405542e510cf266a66b6a403f3405ca0a7214bbcb5", func := "netcalculus/netcalculuslaw05.PointwisePairs", spec := "pointwisePairs", unfollowed := true, recurses := true, apart := false }
def PointwisePairsSaid : Prop := pointwisePairsRow.holds Try.pinned (OpenSpec.ofChange pointwisePairsSpec)

/-- ITS FALSE NEIGHBOUR: 'it returns false'. Refute it at one input. -/
def pointwisePairsWrong : ChangeSpec := { name := "pointwisePairs", fn := fun _ => fun
  | [d1, d2, d3] => { results := [.lit (.bool false)], args := [d1, d2, d3] }
  | _ => none }
def PointwisePairsWrongFalsely : Prop := pointwisePairsRow.holds Try.pinned (OpenSpec.ofChange pointwisePairsWrong)

/-- 'netcalculuslaw06.RemainderAnswers': WHATEVER THE INPUT: true; the input reads as it did. -/
def remainderAnswersSpec : ChangeSpec := { name := "remainderAnswers", fn := fun _ => fun
  | [d1, d2, d3] => { results := [.lit (.bool true)], args := [d1, d2, d3] }
  | _ => none }
def remainderAnswersRow : OpenClaim := { program := "ytjipmkgnndldpaa", sum := "f8e47d14a63ab43229649f405542e510cf266a66b6a403f3405ca0a7214bbcb5", func := "netcalculus/netcalculuslaw06.RemainderAnswers", spec := "remainderAnswers", unfollowed := true, recurses := true, apart := false }
def RemainderAnswersSaid : Prop := remainderAnswersRow.holds Try.pinned (OpenSpec.ofChange remainderAnswersSpec)

/-- ITS FALSE NEIGHBOUR: 'it returns false'. Refute it at one input. -/
def remainderAnswersWrong : ChangeSpec := { name := "remainderAnswers", fn := fun _ => fun
  | [d1, d2, d3] => { results := [.lit (.bool false)], args := [d1, d2, d3] }
  | _ => none }
def RemainderAnswersWrongFalsely : Prop := remainderAnswersRow.holds Try.pinned (OpenSpec.ofChange remainderAnswersWrong)

/-- 'netcalculuslaw07.ConvolutionAnswers': WHATEVER THE INPUT: true; the input reads as it did. -/
def convolutionAnswersSpec : ChangeSpec := { name := "convolutionAnswers", fn := fun _ => fun
  | [d1, d2, d3] => { results := [.lit (.bool true)], args := [d1, d2, d3] }
  | _ => none }
def convolutionAnswersRow : OpenClaim := { program := "ytjipmkgnndldpaa", sum := "f8e47d14a63ab43229649f405542e510cf266a66b6a403f3405ca0a7214bbcb5", func := "netcalculus/netcalculuslaw07.ConvolutionAnswers", spec := "convolutionAnswers", unfollowed := true, recurses := true, apart := false }
def ConvolutionAnswersSaid : Prop := convolutionAnswersRow.holds Try.pinned (OpenSpec.ofChange convolutionAnswersSpec)

/-- ITS FALSE NEIGHBOUR: 'it returns false'. Refute it at one input. -/
def convolutionAnswersWrong : ChangeSpec := { name := "convolutionAnswers", fn := fun _ => fun
  | [d1, d2, d3] => { results := [.lit (.bool false)], args := [d1, d2, d3] }
  | _ => none }
def ConvolutionAnswersWrongFalsely : Prop := convolutionAnswersRow.holds Try.pinned (OpenSpec.ofChange convolutionAnswersWrong)

/-- 'netcalculuslaw08.DeconvolutionChecks': WHATEVER THE INPUT: true; the input reads as it did. -/
def deconvolutionChecksSpec : ChangeSpec := { name := "deconvolutionChecks", fn := fun _ => fun
  | [d1, d2, d3, d4] => { results := [.lit (.bool true)], args := [d1, d2, d3, d4] }
  | _ => none }
def deconvolutionChecksRow : OpenClaim := { program := "ytjipmkgnndldpaa", sum := "f8e47d14a63ab43229649f405542e510cf266a66b6a403f3405ca0a7214bbcb5", func := "netcalculus/netcalculuslaw08.DeconvolutionChecks", spec := "deconvolutionChecks", unfollowed := true, recurses := true, apart := false }
def DeconvolutionChecksSaid : Prop := deconvolutionChecksRow.holds Try.pinned (OpenSpec.ofChange deconvolutionChecksSpec)

/-- ITS FALSE NEIGHBOUR: 'it returns false'. Refute it at one input. -/
def deconvolutionChecksWrong : ChangeSpec := { name := "deconvolutionChecks", fn := fun _ => fun
  | [d1, d2, d3, d4] => { results := [.lit (.bool false)], args := [d1, d2, d3, d4] }
  | _ => none }
def DeconvolutionChecksWrongFalsely : Prop := deconvolutionChecksRow.holds Try.pinned (OpenSpec.ofChange deconvolutionChecksWrong)

/-- 'netcalculuslaw09.ClosureChecks': WHATEVER THE INPUT: true; the input reads as it did. -/
def closureChecksSpec : ChangeSpec := { name := "closureChecks", fn := fun _ => fun
  | [d1, d2, d3] => { results := [.lit (.bool true)], args := [d1, d2, d3] }
  | _ => none }
def closureChecksRow : OpenClaim := { program := "ytjipmkgnndldpaa", sum := "f8e47d14a63ab43229649f405542e510cf266a66b6a403f3405ca0a7214bbcb5", func := "netcalculus/netcalculuslaw09.ClosureChecks", spec := "closureChecks", unfollowed := true, recurses := true, apart := false }
def ClosureChecksSaid : Prop := closureChecksRow.holds Try.pinned (OpenSpec.ofChange closureChecksSpec)

/-- ITS FALSE NEIGHBOUR: 'it returns false'. Refute it at one input. -/
def closureChecksWrong : ChangeSpec := { name := "closureChecks", fn := fun _ => fun
  | [d1, d2, d3] => { results := [.lit (.bool false)], args := [d1, d2, d3] }
  | _ => none }
def ClosureChecksWrongFalsely : Prop := closureChecksRow.holds Try.pinned (OpenSpec.ofChange closureChecksWrong)

/-- 'netcalculuslaw11.BucketMakes': WHATEVER THE INPUT: true; the input reads as it did. -/
def bucketMakesSpec : ChangeSpec := { name := "bucketMakes", fn := fun _ => fun
  | [d1, d2, d3, d4] => { results := [.lit (.bool true)], args := [d1, d2, d3, d4] }
  | _ => none }
def bucketMakesRow : OpenClaim := { program := "ytjipmkgnndldpaa", sum := "f8e47d14a63ab43229649f405542e510cf266a66b6a403f3405ca0a7214bbcb5", func := "netcalculus/netcalculuslaw11.BucketMakes", spec := "bucketMakes", unfollowed := true, recurses := true, apart := false }
def BucketMakesSaid : Prop := bucketMakesRow.holds Try.pinned (OpenSpec.ofChange bucketMakesSpec)

/-- ITS FALSE NEIGHBOUR: 'it returns false'. Refute it at one input. -/
def bucketMakesWrong : ChangeSpec := { name := "bucketMakes", fn := fun _ => fun
  | [d1, d2, d3, d4] => { results := [.lit (.bool false)], args := [d1, d2, d3, d4] }
  | _ => none }
def BucketMakesWrongFalsely : Prop := bucketMakesRow.holds Try.pinned (OpenSpec.ofChange bucketMakesWrong)

/- THE SECOND FORM. 'bulk': how many values and letters a reading holds, each counted each time it is reached (what is shared counts as often as it is met; a slice's spare places count too). A statement '..UptoSaid' is the law's where the arguments, and the package variables that the reading takes, are together of bulk at most 1048576: NARROWER than '..Said'. Prove '..Said' where nothing that the law and all that it calls make is longer than what came in: it says more and counts as full. Else prove '..UptoSaid'. A law counts once. -/
mutual
def uptoBulk {H : Type} : DataW H → Nat
  | .lit (.string bytes) => bytes.length + 1
  | .lit _ => 1
  | .nil => 1
  | .ptr d => uptoBulk d + 1
  | .slice elems spare => uptoBulkAll elems + uptoBulkAll spare + 1
  | .agg parts => uptoBulkAll parts + 1
  | .iface _ d => uptoBulk d + 1
  | .map entries => uptoBulkEntries entries + 1
  | .held _ => 1
def uptoBulkAll {H : Type} : List (DataW H) → Nat
  | [] => 0
  | d :: r => uptoBulk d + uptoBulkAll r
def uptoBulkEntries {H : Type} : List (Lit × DataW H) → Nat
  | [] => 0
  | x :: r => uptoBulkEntry x + uptoBulkEntries r
def uptoBulkEntry {H : Type} : Lit × DataW H → Nat
  | (.string bytes, d) => bytes.length + uptoBulk d + 1
  | (_, d) => uptoBulk d + 1
 end
def uptoSmall : (H : Type) → List (DataW H) → Bool := fun _ ds => decide (uptoBulkAll ds ≤ 1048576)
def OpenSpec.upto (s : _root_.Go.ChangeSpec) : _root_.Go.OpenSpec := { _root_.Go.OpenSpec.ofChange s with cond := some uptoSmall }

/-- 'netcalculuslaw12.ServiceMakes', WHERE WHAT IT READS IS OF BULK AT MOST 1048576: true; the input reads as it did. -/
def serviceMakesUptoRow : OpenClaim := { program := "ytjipmkgnndldpaa", sum := "f8e47d14a63ab43229649f405542e510cf266a66b6a403f3405ca0a7214bbcb5", func := "netcalculus/netcalculuslaw12.ServiceMakes", spec := "serviceMakes", unfollowed := true, recurses := true, apart := false, narrowed := true }
def ServiceMakesUptoSaid : Prop := serviceMakesUptoRow.holds Try.pinned (OpenSpec.upto serviceMakesSpec)

/-- 'netcalculuslaw12.ServiceNumbers', WHERE WHAT IT READS IS OF BULK AT MOST 1048576: true; the input reads as it did. -/
def serviceNumbersUptoRow : OpenClaim := { program := "ytjipmkgnndldpaa", sum := "f8e47d14a63ab43229649f405542e510cf266a66b6a403f3405ca0a7214bbcb5", func := "netcalculus/netcalculuslaw12.ServiceNumbers", spec := "serviceNumbers", unfollowed := true, recurses := true, apart := false, narrowed := true }
def ServiceNumbersUptoSaid : Prop := serviceNumbersUptoRow.holds Try.pinned (OpenSpec.upto serviceNumbersSpec)

/-- 'netcalculuslaw12.ServiceChains', WHERE WHAT IT READS IS OF BULK AT MOST 1048576: true; the input reads as it did. -/
def serviceChainsUptoRow : OpenClaim := { program := "ytjipmkgnndldpaa", sum := "f8e47d14a63ab43229649f405542e510cf266a66b6a403f3405ca0a7214bbcb5", func := "netcalculus/netcalculuslaw12.ServiceChains", spec := "serviceChains", unfollowed := true, recurses := true, apart := false, narrowed := true }
def ServiceChainsUptoSaid : Prop := serviceChainsUptoRow.holds Try.pinned (OpenSpec.upto serviceChainsSpec)

/-- 'netcalculuslaw12.ServiceWaits', WHERE WHAT IT READS IS OF BULK AT MOST 1048576: true; the input reads as it did. -/
def serviceWaitsUptoRow : OpenClaim := { program := "ytjipmkgnndldpaa", sum := "f8e47d14a63ab43229649f405542e510cf266a66b6a403f3405ca0a7214bbcb5", func := "netcalculus/netcalculuslaw12.ServiceWaits", spec := "serviceWaits", unfollowed := true, recurses := true, apart := false, narrowed := true }
def ServiceWaitsUptoSaid : Prop := serviceWaitsUptoRow.holds Try.pinned (OpenSpec.upto serviceWaitsSpec)

/-- 'netcalculuslaw12.ServiceGrows', WHERE WHAT IT READS IS OF BULK AT MOST 1048576: true; the input reads as it did. -/
def serviceGrowsUptoRow : OpenClaim := { program := "ytjipmkgnndldpaa", sum := "f8e47d14a63ab43229649f405542e510cf266a66b6a403f3405ca0a7214bbcb5", func := "netcalculus/netcalculuslaw12.ServiceGrows", spec := "serviceGrows", unfollowed := true, recurses := true, apart := false, narrowed := true }
def ServiceGrowsUptoSaid : Prop := serviceGrowsUptoRow.holds Try.pinned (OpenSpec.upto serviceGrowsSpec)

/-- 'netcalculuslaw12.ServiceDelays', WHERE WHAT IT READS IS OF BULK AT MOST 1048576: true; the input reads as it did. -/
def serviceDelaysUptoRow : OpenClaim := { program := "ytjipmkgnndldpaa", sum := "f8e47d14a63ab43229649f405542e510cf266a66b6a403f3405ca0a7214bbcb5", func := "netcalculus/netcalculuslaw12.ServiceDelays", spec := "serviceDelays", unfollowed := true, recurses := true, apart := false, narrowed := true }
def ServiceDelaysUptoSaid : Prop := serviceDelaysUptoRow.holds Try.pinned (OpenSpec.upto serviceDelaysSpec)

/-- 'netcalculuslaw05.PointwisePairs', WHERE WHAT IT READS IS OF BULK AT MOST 1048576: true; the input reads as it did. -/
def pointwisePairsUptoRow : OpenClaim := { program := "ytjipmkgnndldpaa", sum := "f8e47d14a63ab43229649f405542e510cf266a66b6a403f3405ca0a7214bbcb5", func := "netcalculus/netcalculuslaw05.PointwisePairs", spec := "pointwisePairs", unfollowed := true, recurses := true, apart := false, narrowed := true }
def PointwisePairsUptoSaid : Prop := pointwisePairsUptoRow.holds Try.pinned (OpenSpec.upto pointwisePairsSpec)

/-- 'netcalculuslaw06.RemainderAnswers', WHERE WHAT IT READS IS OF BULK AT MOST 1048576: true; the input reads as it did. -/
def remainderAnswersUptoRow : OpenClaim := { program := "ytjipmkgnndldpaa", sum := "f8e47d14a63ab43229649f405542e510cf266a66b6a403f3405ca0a7214bbcb5", func := "netcalculus/netcalculuslaw06.RemainderAnswers", spec := "remainderAnswers", unfollowed := true, recurses := true, apart := false, narrowed := true }
def RemainderAnswersUptoSaid : Prop := remainderAnswersUptoRow.holds Try.pinned (OpenSpec.upto remainderAnswersSpec)

/-- 'netcalculuslaw07.ConvolutionAnswers', WHERE WHAT IT READS IS OF BULK AT MOST 1048576: true; the input reads as it did. -/
def convolutionAnswersUptoRow : OpenClaim := { program := "ytjipmkgnndldpaa", sum := "f8e47d14a63ab43229649f405542e510cf266a66b6a403f3405ca0a7214bbcb5", func := "netcalculus/netcalculuslaw07.ConvolutionAnswers", spec := "convolutionAnswers", unfollowed := true, recurses := true, apart := false, narrowed := true }
def ConvolutionAnswersUptoSaid : Prop := convolutionAnswersUptoRow.holds Try.pinned (OpenSpec.upto convolutionAnswersSpec)

/-- 'netcalculuslaw08.DeconvolutionChecks', WHERE WHAT IT READS IS OF BULK AT MOST 1048576: true; the input reads as it did. -/
def deconvolutionChecksUptoRow : OpenClaim := { program := "ytjipmkgnndldpaa", sum := "f8e47d14a63ab43229649f405542e510cf266a66b6a403f3405ca0a7214bbcb5", func := "netcalculus/netcalculuslaw08.DeconvolutionChecks", spec := "deconvolutionChecks", unfollowed := true, recurses := true, apart := false, narrowed := true }
def DeconvolutionChecksUptoSaid : Prop := deconvolutionChecksUptoRow.holds Try.pinned (OpenSpec.upto deconvolutionChecksSpec)

/-- 'netcalculuslaw09.ClosureChecks', WHERE WHAT IT READS IS OF BULK AT MOST 1048576: true; the input reads as it did. -/
def closureChecksUptoRow : OpenClaim := { program := "ytjipmkgnndldpaa", sum := "f8e47d14a63ab43229649f405542e510cf266a66b6a403f3405ca0a7214bbcb5", func := "netcalculus/netcalculuslaw09.ClosureChecks", spec := "closureChecks", unfollowed := true, recurses := true, apart := false, narrowed := true }
def ClosureChecksUptoSaid : Prop := closureChecksUptoRow.holds Try.pinned (OpenSpec.upto closureChecksSpec)

/-- 'netcalculuslaw11.BucketMakes', WHERE WHAT IT READS IS OF BULK AT MOST 1048576: true; the input reads as it did. -/
def bucketMakesUptoRow : OpenClaim := { program := "ytjipmkgnndldpaa", sum := "f8e47d14a63ab43229649f405542e510cf266a66b6a403f3405ca0a7214bbcb5", func := "netcalculus/netcalculuslaw11.BucketMakes", spec := "bucketMakes", unfollowed := true, recurses := true, apart := false, narrowed := true }
def BucketMakesUptoSaid : Prop := bucketMakesUptoRow.holds Try.pinned (OpenSpec.upto bucketMakesSpec)

end Rows
end Go.Proofs.Ytjipmkgnndldpaa
