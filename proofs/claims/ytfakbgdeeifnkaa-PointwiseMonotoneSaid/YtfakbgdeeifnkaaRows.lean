/-
  No cell of these rows narrows 'for every input' (looked for: loops, veiled, ifaces, maps, wideKeys, modest, calm, conditions, laid).
  DERIVED. THE GIVEN ROWS OF THIS SEAT. 5 by the template 'for every input the law returns true; each argument reads behind the call as it read before'; 0 by the template 'total and deterministic' (their statements: YtfakbgdeeifnkaaTotals.lean).
  GIVEN WITH THE SEED: the statements are not yours to turn. If you find one false, say at which input.
  Laid BY PROGRAM, IN A SANDBOX (cutbox-rows.mjs): the forced cells as the released guide's own fill.sh prints them over the translation 047bcac849161e8b… (all of the seat's roots in one cut). By AI agents, Wed Nov 11 2026. No macro, syntax, notation, axiom, sorry.
-/
import Derived.Test.YtfakbgdeeifnkaaChecked
import GoSem.Claim
import GoSem.ClaimJoined
import GoSem.ClaimMapViews
import Derived.JoinedTies
import Derived.KernelRfl
namespace Go.Proofs.Ytfakbgdeeifnkaa
/- THE CELL 'sum', in the pinned program and in every row, IS THE sha256 OF THE DUMP (.gsa) THAT YtfakbgdeeifnkaaProg.lean LOADS. Nothing in Lean hashes anything: it is a label: what it is worth is what the hold of that sum in a sandbox is worth. -/
noncomputable def Try.pinned : Pinned := { name := "ytfakbgdeeifnkaa", sum := "047bcac849161e8b9eba1e4d1b643781474a14a297cd59abae70a332c4064caf", checked := Try.checked }
namespace Rows
def none {H : Type} : Left H := { results := [], args := [] }

/-- 'netcalculuslaw05.PointwisePairs': WHATEVER THE INPUT: true; the input reads as it did. -/
def pointwisePairsSpec : ChangeSpec := { name := "pointwisePairs", fn := fun _ => fun
  | [d1, d2, d3] => { results := [.lit (.bool true)], args := [d1, d2, d3] }
  | _ => none }
def pointwisePairsRow : OpenClaim := { program := "ytfakbgdeeifnkaa", sum := "047bcac849161e8b9eba1e4d1b643781474a14a297cd59abae70a332c4064caf", func := "netcalculus/netcalculuslaw05.PointwisePairs", spec := "pointwisePairs", unfollowed := true, recurses := true, apart := false }
def PointwisePairsSaid : Prop := pointwisePairsRow.holds Try.pinned (OpenSpec.ofChange pointwisePairsSpec)

/-- ITS FALSE NEIGHBOUR: 'it returns false'. Refute it at one input. -/
def pointwisePairsWrong : ChangeSpec := { name := "pointwisePairs", fn := fun _ => fun
  | [d1, d2, d3] => { results := [.lit (.bool false)], args := [d1, d2, d3] }
  | _ => none }
def PointwisePairsWrongFalsely : Prop := pointwisePairsRow.holds Try.pinned (OpenSpec.ofChange pointwisePairsWrong)

/-- 'netcalculuslaw05.PointwiseSingles': WHATEVER THE INPUT: true; the input reads as it did. -/
def pointwiseSinglesSpec : ChangeSpec := { name := "pointwiseSingles", fn := fun _ => fun
  | [d1, d2, d3, d4] => { results := [.lit (.bool true)], args := [d1, d2, d3, d4] }
  | _ => none }
def pointwiseSinglesRow : OpenClaim := { program := "ytfakbgdeeifnkaa", sum := "047bcac849161e8b9eba1e4d1b643781474a14a297cd59abae70a332c4064caf", func := "netcalculus/netcalculuslaw05.PointwiseSingles", spec := "pointwiseSingles", unfollowed := true, recurses := true, apart := false }
def PointwiseSinglesSaid : Prop := pointwiseSinglesRow.holds Try.pinned (OpenSpec.ofChange pointwiseSinglesSpec)

/-- ITS FALSE NEIGHBOUR: 'it returns false'. Refute it at one input. -/
def pointwiseSinglesWrong : ChangeSpec := { name := "pointwiseSingles", fn := fun _ => fun
  | [d1, d2, d3, d4] => { results := [.lit (.bool false)], args := [d1, d2, d3, d4] }
  | _ => none }
def PointwiseSinglesWrongFalsely : Prop := pointwiseSinglesRow.holds Try.pinned (OpenSpec.ofChange pointwiseSinglesWrong)

/-- 'netcalculuslaw05.PointwiseLattice': WHATEVER THE INPUT: true; the input reads as it did. -/
def pointwiseLatticeSpec : ChangeSpec := { name := "pointwiseLattice", fn := fun _ => fun
  | [d] => { results := [.lit (.bool true)], args := [d] }
  | _ => none }
def pointwiseLatticeRow : OpenClaim := { program := "ytfakbgdeeifnkaa", sum := "047bcac849161e8b9eba1e4d1b643781474a14a297cd59abae70a332c4064caf", func := "netcalculus/netcalculuslaw05.PointwiseLattice", spec := "pointwiseLattice", unfollowed := true, recurses := true, apart := false }
def PointwiseLatticeSaid : Prop := pointwiseLatticeRow.holds Try.pinned (OpenSpec.ofChange pointwiseLatticeSpec)

/-- ITS FALSE NEIGHBOUR: 'it returns false'. Refute it at one input. -/
def pointwiseLatticeWrong : ChangeSpec := { name := "pointwiseLattice", fn := fun _ => fun
  | [d] => { results := [.lit (.bool false)], args := [d] }
  | _ => none }
def PointwiseLatticeWrongFalsely : Prop := pointwiseLatticeRow.holds Try.pinned (OpenSpec.ofChange pointwiseLatticeWrong)

/-- 'netcalculuslaw05.PointwiseMonotone': WHATEVER THE INPUT: true; the input reads as it did. -/
def pointwiseMonotoneSpec : ChangeSpec := { name := "pointwiseMonotone", fn := fun _ => fun
  | [d] => { results := [.lit (.bool true)], args := [d] }
  | _ => none }
def pointwiseMonotoneRow : OpenClaim := { program := "ytfakbgdeeifnkaa", sum := "047bcac849161e8b9eba1e4d1b643781474a14a297cd59abae70a332c4064caf", func := "netcalculus/netcalculuslaw05.PointwiseMonotone", spec := "pointwiseMonotone", unfollowed := true, recurses := true, apart := false }
def PointwiseMonotoneSaid : Prop := pointwiseMonotoneRow.holds Try.pinned (OpenSpec.ofChange pointwiseMonotoneSpec)

/-- ITS FALSE NEIGHBOUR: 'it returns false'. Refute it at one input. -/
def pointwiseMonotoneWrong : ChangeSpec := { name := "pointwiseMonotone", fn := fun _ => fun
  | [d] => { results := [.lit (.bool false)], args := [d] }
  | _ => none }
def PointwiseMonotoneWrongFalsely : Prop := pointwiseMonotoneRow.holds Try.pinned (OpenSpec.ofChange pointwiseMonotoneWrong)

/-- 'netcalculuslaw05.PointwiseTotals': WHATEVER THE INPUT: true; the input reads as it did. -/
def pointwiseTotalsSpec : ChangeSpec := { name := "pointwiseTotals", fn := fun _ => fun
  | [d] => { results := [.lit (.bool true)], args := [d] }
  | _ => none }
def pointwiseTotalsRow : OpenClaim := { program := "ytfakbgdeeifnkaa", sum := "047bcac849161e8b9eba1e4d1b643781474a14a297cd59abae70a332c4064caf", func := "netcalculus/netcalculuslaw05.PointwiseTotals", spec := "pointwiseTotals", unfollowed := true, recurses := true, apart := false }
def PointwiseTotalsSaid : Prop := pointwiseTotalsRow.holds Try.pinned (OpenSpec.ofChange pointwiseTotalsSpec)

/-- ITS FALSE NEIGHBOUR: 'it returns false'. Refute it at one input. -/
def pointwiseTotalsWrong : ChangeSpec := { name := "pointwiseTotals", fn := fun _ => fun
  | [d] => { results := [.lit (.bool false)], args := [d] }
  | _ => none }
def PointwiseTotalsWrongFalsely : Prop := pointwiseTotalsRow.holds Try.pinned (OpenSpec.ofChange pointwiseTotalsWrong)

/- THE SECOND FORM. 'bulk': how many values and letters a reading holds, each counted each time it is reached (what is shared counts as often as it is met; a slice's spare places count too). A statement '..UptoSaid' is the law's where the arguments, and the package variables that the reading takes, are together of bulk at most 1048576: NARROWER than '..Said'. Prove '..Said' where nothing that the law and all that it calls make is longer than what came in: it says more and counts as full. Else prove '..UptoSaid'. A law counts once. -/
mutual
def uptoBulk {H : Type} : DataW H → Nat
  | .lit (.string bytes) => bytes.length + 1
  | .lit _ => 1
  | .nil => 1
  | .ptr d => uptoBulk d + 1
  | .slice elems spare => uptoBulkAll elems + uptoBulkAll spare + 1
  | .agg parts => uptoBulkAll parts + 1
  | .iface _ d => uptoBulk d + 1
  | .map entries => uptoBulkEntries entries + 1
  | .held _ => 1
def uptoBulkAll {H : Type} : List (DataW H) → Nat
  | [] => 0
  | d :: r => uptoBulk d + uptoBulkAll r
def uptoBulkEntries {H : Type} : List (Lit × DataW H) → Nat
  | [] => 0
  | x :: r => uptoBulkEntry x + uptoBulkEntries r
def uptoBulkEntry {H : Type} : Lit × DataW H → Nat
  | (.string bytes, d) => bytes.length + uptoBulk d + 1
  | (_, d) => uptoBulk d + 1
 end
def uptoSmall : (H : Type) → List (DataW H) → Bool := fun _ ds => decide (uptoBulkAll ds ≤ 1048576)
def OpenSpec.upto (s : _root_.Go.ChangeSpec) : _root_.Go.OpenSpec := { _root_.Go.OpenSpec.ofChange s with cond := some uptoSmall }

/-- 'netcalculuslaw05.PointwisePairs', WHERE WHAT IT READS IS OF BULK AT MOST 1048576: true; the input reads as it did. -/
def pointwisePairsUptoRow : OpenClaim := { program := "ytfakbgdeeifnkaa", sum := "047bcac849161e8b9eba1e4d1b643781474a14a297cd59abae70a332c4064caf", func := "netcalculus/netcalculuslaw05.PointwisePairs", spec := "pointwisePairs", unfollowed := true, recurses := true, apart := false, narrowed := true }
def PointwisePairsUptoSaid : Prop := pointwisePairsUptoRow.holds Try.pinned (OpenSpec.upto pointwisePairsSpec)

/-- 'netcalculuslaw05.PointwiseSingles', WHERE WHAT IT READS IS OF BULK AT MOST 1048576: true; the input reads as it did. -/
def pointwiseSinglesUptoRow : OpenClaim := { program := "ytfakbgdeeifnkaa", sum := "047bcac849161e8b9eba1e4d1b643781474a14a297cd59abae70a332c4064caf", func := "netcalculus/netcalculuslaw05.PointwiseSingles", spec := "pointwiseSingles", unfollowed := true, recurses := true, apart := false, narrowed := true }
def PointwiseSinglesUptoSaid : Prop := pointwiseSinglesUptoRow.holds Try.pinned (OpenSpec.upto pointwiseSinglesSpec)

/-- 'netcalculuslaw05.PointwiseLattice', WHERE WHAT IT READS IS OF BULK AT MOST 1048576: true; the input reads as it did. -/
def pointwiseLatticeUptoRow : OpenClaim := { program := "ytfakbgdeeifnkaa", sum := "047bcac849161e8b9eba1e4d1b643781474a14a297cd59abae70a332c4064caf", func := "netcalculus/netcalculuslaw05.PointwiseLattice", spec := "pointwiseLattice", unfollowed := true, recurses := true, apart := false, narrowed := true }
def PointwiseLatticeUptoSaid : Prop := pointwiseLatticeUptoRow.holds Try.pinned (OpenSpec.upto pointwiseLatticeSpec)

/-- 'netcalculuslaw05.PointwiseMonotone', WHERE WHAT IT READS IS OF BULK AT MOST 1048576: true; the input reads as it did. -/
def pointwiseMonotoneUptoRow : OpenClaim := { program := "ytfakbgdeeifnkaa", sum := "047bcac849161e8b9eba1e4d1b643781474a14a297cd59abae70a332c4064caf", func := "netcalculus/netcalculuslaw05.PointwiseMonotone", spec := "pointwiseMonotone", unfollowed := true, recurses := true, apart := false, narrowed := true }
def PointwiseMonotoneUptoSaid : Prop := pointwiseMonotoneUptoRow.holds Try.pinned (OpenSpec.upto pointwiseMonotoneSpec)

/-- 'netcalculuslaw05.PointwiseTotals', WHERE WHAT IT READS IS OF BULK AT MOST 1048576: true; the input reads as it did. -/
def pointwiseTotalsUptoRow : OpenClaim := { program := "ytfakbgdeeifnkaa", sum := "047bcac849161e8b9eba1e4d1b643781474a14a297cd59abae70a332c4064caf", func := "netcalculus/netcalculuslaw05.PointwiseTotals", spec := "pointwiseTotals", unfollowed := true, recurses := true, apart := false, narrowed := true }
def PointwiseTotalsUptoSaid : Prop := pointwiseTotalsUptoRow.holds Try.pinned (OpenSpec.upto pointwiseTotalsSpec)

end Rows
end Go.Proofs.Ytfakbgdeeifnkaa
