/-
  No cell of these rows narrows 'for every input' (looked for: loops, veiled, ifaces, maps, wideKeys, modest, calm, conditions, laid).
  DERIVED. THE GIVEN ROWS OF THIS SEAT. 9 by the template 'for every input the law returns true; each argument reads behind the call as it read before'; 0 by the template 'total and deterministic' (their statements: YthljhddnfflpjaaTotals.lean).
  GIVEN WITH THE SEED: the statements are not yours to turn. If you find one false, say at which input.
  Laid BY PROGRAM, IN A SANDBOX (cutbox-rows.mjs): the forced cells as the released guide's own fill.sh prints them over the translation c42a865e1510c6e7… (all of the seat's roots in one cut). By AI agents, Wed Nov 11 2026. No macro, syntax, notation, axiom, sorry.
-/
import Derived.Test.YthljhddnfflpjaaChecked
import GoSem.Claim
import GoSem.ClaimJoined
import GoSem.ClaimMapViews
import Derived.JoinedTies
import Derived.KernelRfl
namespace Go.Proofs.Ythljhddnfflpjaa
/- THE CELL 'sum', in the pinned program and in every row, IS THE sha256 OF THE DUMP (.gsa) THAT YthljhddnfflpjaaProg.lean LOADS. Nothing in Lean hashes anything: it is a label: what it is worth is what the hold of that sum in a sandbox is worth. -/
noncomputable def Try.pinned : Pinned := { name := "ythljhddnfflpjaa", sum := "c42a865e1510c6e73413fce066ab560cae98d827fba0c9784a575e377ec5db8d", checked := Try.checked }
namespace Rows
def none {H : Type} : Left H := { results := [], args := [] }

/-- 'netcalculuslaw05.PointwiseSingles': WHATEVER THE INPUT: true; the input reads as it did. -/
def pointwiseSinglesSpec : ChangeSpec := { name := "pointwiseSingles", fn := fun _ => fun
  | [d1, d2, d3, d4] => { results := [.lit (.bool true)], args := [d1, d2, d3, d4] }
  | _ => none }
def pointwiseSinglesRow : OpenClaim := { program := "ythljhddnfflpjaa", sum := "c42a865e1510c6e73413fce066ab560cae98d827fba0c9784a575e377ec5db8d", func := "netcalculus/netcalculuslaw05.PointwiseSingles", spec := "pointwiseSingles", unfollowed := true, recurses := true, apart := false }
def PointwiseSinglesSaid : Prop := pointwiseSinglesRow.holds Try.pinned (OpenSpec.ofChange pointwiseSinglesSpec)

/-- ITS FALSE NEIGHBOUR: 'it returns false'. Refute it at one input. -/
def pointwiseSinglesWrong : ChangeSpec := { name := "pointwiseSingles", fn := fun _ => fun
  | [d1, d2, d3, d4] => { results := [.lit (.bool false)], args := [d1, d2, d3, d4] }
  | _ => none }
def PointwiseSinglesWrongFalsely : Prop := pointwiseSinglesRow.holds Try.pinned (OpenSpec.ofChange pointwiseSinglesWrong)

/-- 'netcalculuslaw07.ConvolutionAnswers': WHATEVER THE INPUT: true; the input reads as it did. -/
def convolutionAnswersSpec : ChangeSpec := { name := "convolutionAnswers", fn := fun _ => fun
  | [d1, d2, d3] => { results := [.lit (.bool true)], args := [d1, d2, d3] }
  | _ => none }
def convolutionAnswersRow : OpenClaim := { program := "ythljhddnfflpjaa", sum := "c42a865e1510c6e73413fce066ab560cae98d827fba0c9784a575e377ec5db8d", func := "netcalculus/netcalculuslaw07.ConvolutionAnswers", spec := "convolutionAnswers", unfollowed := true, recurses := true, apart := false }
def ConvolutionAnswersSaid : Prop := convolutionAnswersRow.holds Try.pinned (OpenSpec.ofChange convolutionAnswersSpec)

/-- ITS FALSE NEIGHBOUR: 'it returns false'. Refute it at one input. -/
def convolutionAnswersWrong : ChangeSpec := { name := "convolutionAnswers", fn := fun _ => fun
  | [d1, d2, d3] => { results := [.lit (.bool false)], args := [d1, d2, d3] }
  | _ => none }
def ConvolutionAnswersWrongFalsely : Prop := convolutionAnswersRow.holds Try.pinned (OpenSpec.ofChange convolutionAnswersWrong)

/-- 'netcalculuslaw08.DeconvolutionChecks': WHATEVER THE INPUT: true; the input reads as it did. -/
def deconvolutionChecksSpec : ChangeSpec := { name := "deconvolutionChecks", fn := fun _ => fun
  | [d1, d2, d3, d4] => { results := [.lit (.bool true)], args := [d1, d2, d3, d4] }
  | _ => none }
def deconvolutionChecksRow : OpenClaim := { program := "ythljhddnfflpjaa", sum := "c42a865e1510c6e73413fce066ab560cae98d827fba0c9784a575e377ec5db8d", func := "netcalculus/netcalculuslaw08.DeconvolutionChecks", spec := "deconvolutionChecks", unfollowed := true, recurses := true, apart := false }
def DeconvolutionChecksSaid : Prop := deconvolutionChecksRow.holds Try.pinned (OpenSpec.ofChange deconvolutionChecksSpec)

/-- ITS FALSE NEIGHBOUR: 'it returns false'. Refute it at one input. -/
def deconvolutionChecksWrong : ChangeSpec := { name := "deconvolutionChecks", fn := fun _ => fun
  | [d1, d2, d3, d4] => { results := [.lit (.bool false)], args := [d1, d2, d3, d4] }
  | _ => none }
def DeconvolutionChecksWrongFalsely : Prop := deconvolutionChecksRow.holds Try.pinned (OpenSpec.ofChange deconvolutionChecksWrong)

/-- 'netcalculuslaw09.ClosureChecks': WHATEVER THE INPUT: true; the input reads as it did. -/
def closureChecksSpec : ChangeSpec := { name := "closureChecks", fn := fun _ => fun
  | [d1, d2, d3] => { results := [.lit (.bool true)], args := [d1, d2, d3] }
  | _ => none }
def closureChecksRow : OpenClaim := { program := "ythljhddnfflpjaa", sum := "c42a865e1510c6e73413fce066ab560cae98d827fba0c9784a575e377ec5db8d", func := "netcalculus/netcalculuslaw09.ClosureChecks", spec := "closureChecks", unfollowed := true, recurses := true, apart := false }
def ClosureChecksSaid : Prop := closureChecksRow.holds Try.pinned (OpenSpec.ofChange closureChecksSpec)

/-- ITS FALSE NEIGHBOUR: 'it returns false'. Refute it at one input. -/
def closureChecksWrong : ChangeSpec := { name := "closureChecks", fn := fun _ => fun
  | [d1, d2, d3] => { results := [.lit (.bool false)], args := [d1, d2, d3] }
  | _ => none }
def ClosureChecksWrongFalsely : Prop := closureChecksRow.holds Try.pinned (OpenSpec.ofChange closureChecksWrong)

/-- 'netcalculuslaw14.ConformAnswers': WHATEVER THE INPUT: true; the input reads as it did. -/
def conformAnswersSpec : ChangeSpec := { name := "conformAnswers", fn := fun _ => fun
  | [d1, d2, d3, d4, d5] => { results := [.lit (.bool true)], args := [d1, d2, d3, d4, d5] }
  | _ => none }
def conformAnswersRow : OpenClaim := { program := "ythljhddnfflpjaa", sum := "c42a865e1510c6e73413fce066ab560cae98d827fba0c9784a575e377ec5db8d", func := "netcalculus/netcalculuslaw14.ConformAnswers", spec := "conformAnswers", unfollowed := true, recurses := true, apart := false }
def ConformAnswersSaid : Prop := conformAnswersRow.holds Try.pinned (OpenSpec.ofChange conformAnswersSpec)

/-- ITS FALSE NEIGHBOUR: 'it returns false'. Refute it at one input. -/
def conformAnswersWrong : ChangeSpec := { name := "conformAnswers", fn := fun _ => fun
  | [d1, d2, d3, d4, d5] => { results := [.lit (.bool false)], args := [d1, d2, d3, d4, d5] }
  | _ => none }
def ConformAnswersWrongFalsely : Prop := conformAnswersRow.holds Try.pinned (OpenSpec.ofChange conformAnswersWrong)

/-- 'netcalculuslaw15.PacketHops': WHATEVER THE INPUT: true; the input reads as it did. -/
def packetHopsSpec : ChangeSpec := { name := "packetHops", fn := fun _ => fun
  | [d] => { results := [.lit (.bool true)], args := [d] }
  | _ => none }
def packetHopsRow : OpenClaim := { program := "ythljhddnfflpjaa", sum := "c42a865e1510c6e73413fce066ab560cae98d827fba0c9784a575e377ec5db8d", func := "netcalculus/netcalculuslaw15.PacketHops", spec := "packetHops", unfollowed := true, recurses := true, apart := false }
def PacketHopsSaid : Prop := packetHopsRow.holds Try.pinned (OpenSpec.ofChange packetHopsSpec)

/-- ITS FALSE NEIGHBOUR: 'it returns false'. Refute it at one input. -/
def packetHopsWrong : ChangeSpec := { name := "packetHops", fn := fun _ => fun
  | [d] => { results := [.lit (.bool false)], args := [d] }
  | _ => none }
def PacketHopsWrongFalsely : Prop := packetHopsRow.holds Try.pinned (OpenSpec.ofChange packetHopsWrong)

/-- 'netcalculuslaw15.PacketWhole': WHATEVER THE INPUT: true; the input reads as it did. -/
def packetWholeSpec : ChangeSpec := { name := "packetWhole", fn := fun _ => fun
  | [d1, d2] => { results := [.lit (.bool true)], args := [d1, d2] }
  | _ => none }
def packetWholeRow : OpenClaim := { program := "ythljhddnfflpjaa", sum := "c42a865e1510c6e73413fce066ab560cae98d827fba0c9784a575e377ec5db8d", func := "netcalculus/netcalculuslaw15.PacketWhole", spec := "packetWhole", unfollowed := true, recurses := true, apart := false }
def PacketWholeSaid : Prop := packetWholeRow.holds Try.pinned (OpenSpec.ofChange packetWholeSpec)

/-- ITS FALSE NEIGHBOUR: 'it returns false'. Refute it at one input. -/
def packetWholeWrong : ChangeSpec := { name := "packetWhole", fn := fun _ => fun
  | [d1, d2] => { results := [.lit (.bool false)], args := [d1, d2] }
  | _ => none }
def PacketWholeWrongFalsely : Prop := packetWholeRow.holds Try.pinned (OpenSpec.ofChange packetWholeWrong)

/-- 'netcalculuslaw15.PacketArrives': WHATEVER THE INPUT: true; the input reads as it did. -/
def packetArrivesSpec : ChangeSpec := { name := "packetArrives", fn := fun _ => fun
  | [d1, d2] => { results := [.lit (.bool true)], args := [d1, d2] }
  | _ => none }
def packetArrivesRow : OpenClaim := { program := "ythljhddnfflpjaa", sum := "c42a865e1510c6e73413fce066ab560cae98d827fba0c9784a575e377ec5db8d", func := "netcalculus/netcalculuslaw15.PacketArrives", spec := "packetArrives", unfollowed := true, recurses := true, apart := false }
def PacketArrivesSaid : Prop := packetArrivesRow.holds Try.pinned (OpenSpec.ofChange packetArrivesSpec)

/-- ITS FALSE NEIGHBOUR: 'it returns false'. Refute it at one input. -/
def packetArrivesWrong : ChangeSpec := { name := "packetArrives", fn := fun _ => fun
  | [d1, d2] => { results := [.lit (.bool false)], args := [d1, d2] }
  | _ => none }
def PacketArrivesWrongFalsely : Prop := packetArrivesRow.holds Try.pinned (OpenSpec.ofChange packetArrivesWrong)

/-- 'netcalculuslaw15.PacketServes': WHATEVER THE INPUT: true; the input reads as it did. -/
def packetServesSpec : ChangeSpec := { name := "packetServes", fn := fun _ => fun
  | [d] => { results := [.lit (.bool true)], args := [d] }
  | _ => none }
def packetServesRow : OpenClaim := { program := "ythljhddnfflpjaa", sum := "c42a865e1510c6e73413fce066ab560cae98d827fba0c9784a575e377ec5db8d", func := "netcalculus/netcalculuslaw15.PacketServes", spec := "packetServes", unfollowed := true, recurses := true, apart := false }
def PacketServesSaid : Prop := packetServesRow.holds Try.pinned (OpenSpec.ofChange packetServesSpec)

/-- ITS FALSE NEIGHBOUR: 'it returns false'. Refute it at one input. -/
def packetServesWrong : ChangeSpec := { name := "packetServes", fn := fun _ => fun
  | [d] => { results := [.lit (.bool false)], args := [d] }
  | _ => none }
def PacketServesWrongFalsely : Prop := packetServesRow.holds Try.pinned (OpenSpec.ofChange packetServesWrong)

/- THE SECOND FORM. 'bulk': how many values and letters a reading holds, each counted each time it is reached (what is shared counts as often as it is met; a slice's spare places count too). A statement '..UptoSaid' is the law's where the arguments, and the package variables that the reading takes, are together of bulk at most 1048576: NARROWER than '..Said'. Prove '..Said' where nothing that the law and all that it calls make is longer than what came in: it says more and counts as full. Else prove '..UptoSaid'. A law counts once. -/
mutual
def uptoBulk {H : Type} : DataW H → Nat
  | .lit (.string bytes) => bytes.length + 1
  | .lit _ => 1
  | .nil => 1
  | .ptr d => uptoBulk d + 1
  | .slice elems spare => uptoBulkAll elems + uptoBulkAll spare + 1
  | .agg parts => uptoBulkAll parts + 1
  | .iface _ d => uptoBulk d + 1
  | .map entries => uptoBulkEntries entries + 1
  | .held _ => 1
def uptoBulkAll {H : Type} : List (DataW H) → Nat
  | [] => 0
  | d :: r => uptoBulk d + uptoBulkAll r
def uptoBulkEntries {H : Type} : List (Lit × DataW H) → Nat
  | [] => 0
  | x :: r => uptoBulkEntry x + uptoBulkEntries r
def uptoBulkEntry {H : Type} : Lit × DataW H → Nat
  | (.string bytes, d) => bytes.length + uptoBulk d + 1
  | (_, d) => uptoBulk d + 1
 end
def uptoSmall : (H : Type) → List (DataW H) → Bool := fun _ ds => decide (uptoBulkAll ds ≤ 1048576)
def OpenSpec.upto (s : _root_.Go.ChangeSpec) : _root_.Go.OpenSpec := { _root_.Go.OpenSpec.ofChange s with cond := some uptoSmall }

/-- 'netcalculuslaw05.PointwiseSingles', WHERE WHAT IT READS IS OF BULK AT MOST 1048576: true; the input reads as it did. -/
def pointwiseSinglesUptoRow : OpenClaim := { program := "ythljhddnfflpjaa", sum := "c42a865e1510c6e73413fce066ab560cae98d827fba0c9784a575e377ec5db8d", func := "netcalculus/netcalculuslaw05.PointwiseSingles", spec := "pointwiseSingles", unfollowed := true, recurses := true, apart := false, narrowed := true }
def PointwiseSinglesUptoSaid : Prop := pointwiseSinglesUptoRow.holds Try.pinned (OpenSpec.upto pointwiseSinglesSpec)

/-- 'netcalculuslaw07.ConvolutionAnswers', WHERE WHAT IT READS IS OF BULK AT MOST 1048576: true; the input reads as it did. -/
def convolutionAnswersUptoRow : OpenClaim := { program := "ythljhddnfflpjaa", sum := "c42a865e1510c6e73413fce066ab560cae98d827fba0c9784a575e377ec5db8d", func := "netcalculus/netcalculuslaw07.ConvolutionAnswers", spec := "convolutionAnswers", unfollowed := true, recurses := true, apart := false, narrowed := true }
def ConvolutionAnswersUptoSaid : Prop := convolutionAnswersUptoRow.holds Try.pinned (OpenSpec.upto convolutionAnswersSpec)

/-- 'netcalculuslaw08.DeconvolutionChecks', WHERE WHAT IT READS IS OF BULK AT MOST 1048576: true; the input reads as it did. -/
def deconvolutionChecksUptoRow : OpenClaim := { program := "ythljhddnfflpjaa", sum := "c42a865e1510c6e73413fce066ab560cae98d827fba0c9784a575e377ec5db8d", func := "netcalculus/netcalculuslaw08.DeconvolutionChecks", spec := "deconvolutionChecks", unfollowed := true, recurses := true, apart := false, narrowed := true }
def DeconvolutionChecksUptoSaid : Prop := deconvolutionChecksUptoRow.holds Try.pinned (OpenSpec.upto deconvolutionChecksSpec)

/-- 'netcalculuslaw09.ClosureChecks', WHERE WHAT IT READS IS OF BULK AT MOST 1048576: true; the input reads as it did. -/
def closureChecksUptoRow : OpenClaim := { program := "ythljhddnfflpjaa", sum := "c42a865e1510c6e73413fce066ab560cae98d827fba0c9784a575e377ec5db8d", func := "netcalculus/netcalculuslaw09.ClosureChecks", spec := "closureChecks", unfollowed := true, recurses := true, apart := false, narrowed := true }
def ClosureChecksUptoSaid : Prop := closureChecksUptoRow.holds Try.pinned (OpenSpec.upto closureChecksSpec)

/-- 'netcalculuslaw14.ConformAnswers', WHERE WHAT IT READS IS OF BULK AT MOST 1048576: true; the input reads as it did. -/
def conformAnswersUptoRow : OpenClaim := { program := "ythljhddnfflpjaa", sum := "c42a865e1510c6e73413fce066ab560cae98d827fba0c9784a575e377ec5db8d", func := "netcalculus/netcalculuslaw14.ConformAnswers", spec := "conformAnswers", unfollowed := true, recurses := true, apart := false, narrowed := true }
def ConformAnswersUptoSaid : Prop := conformAnswersUptoRow.holds Try.pinned (OpenSpec.upto conformAnswersSpec)

/-- 'netcalculuslaw15.PacketHops', WHERE WHAT IT READS IS OF BULK AT MOST 1048576: true; the input reads as it did. -/
def packetHopsUptoRow : OpenClaim := { program := "ythljhddnfflpjaa", sum := "c42a865e1510c6e73413fce066ab560cae98d827fba0c9784a575e377ec5db8d", func := "netcalculus/netcalculuslaw15.PacketHops", spec := "packetHops", unfollowed := true, recurses := true, apart := false, narrowed := true }
def PacketHopsUptoSaid : Prop := packetHopsUptoRow.holds Try.pinned (OpenSpec.upto packetHopsSpec)

/-- 'netcalculuslaw15.PacketWhole', WHERE WHAT IT READS IS OF BULK AT MOST 1048576: true; the input reads as it did. -/
def packetWholeUptoRow : OpenClaim := { program := "ythljhddnfflpjaa", sum := "c42a865e1510c6e73413fce066ab560cae98d827fba0c9784a575e377ec5db8d", func := "netcalculus/netcalculuslaw15.PacketWhole", spec := "packetWhole", unfollowed := true, recurses := true, apart := false, narrowed := true }
def PacketWholeUptoSaid : Prop := packetWholeUptoRow.holds Try.pinned (OpenSpec.upto packetWholeSpec)

/-- 'netcalculuslaw15.PacketArrives', WHERE WHAT IT READS IS OF BULK AT MOST 1048576: true; the input reads as it did. -/
def packetArrivesUptoRow : OpenClaim := { program := "ythljhddnfflpjaa", sum := "c42a865e1510c6e73413fce066ab560cae98d827fba0c9784a575e377ec5db8d", func := "netcalculus/netcalculuslaw15.PacketArrives", spec := "packetArrives", unfollowed := true, recurses := true, apart := false, narrowed := true }
def PacketArrivesUptoSaid : Prop := packetArrivesUptoRow.holds Try.pinned (OpenSpec.upto packetArrivesSpec)

/-- 'netcalculuslaw15.PacketServes', WHERE WHAT IT READS IS OF BULK AT MOST 1048576: true; the input reads as it did. -/
def packetServesUptoRow : OpenClaim := { program := "ythljhddnfflpjaa", sum := "c42a865e1510c6e73413fce066ab560cae98d827fba0c9784a575e377ec5db8d", func := "netcalculus/netcalculuslaw15.PacketServes", spec := "packetServes", unfollowed := true, recurses := true, apart := false, narrowed := true }
def PacketServesUptoSaid : Prop := packetServesUptoRow.holds Try.pinned (OpenSpec.upto packetServesSpec)

end Rows
end Go.Proofs.Ythljhddnfflpjaa
