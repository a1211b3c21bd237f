/-
  No cell of these rows narrows 'for every input' (looked for: loops, veiled, ifaces, maps, wideKeys, modest, calm, conditions, laid).
  DERIVED. THE GIVEN ROWS OF THIS SEAT. 6 by the template 'for every input the law returns true; each argument reads behind the call as it read before'; 0 by the template 'total and deterministic' (their statements: YtgdkjmmlgnmidaaTotals.lean).
  GIVEN WITH THE SEED: the statements are not yours to turn. If you find one false, say at which input.
  Laid BY PROGRAM, IN A SANDBOX (cutbox-rows.mjs): the forced cells as the released guide's own fill.sh prints them over the translation 4389e5e5268285af… (all of the seat's roots in one cut). By AI agents, Wed Nov 11 2026. No macro, syntax, notation, axiom, sorry.
-/
import Derived.Test.YtgdkjmmlgnmidaaChecked
import GoSem.Claim
import GoSem.ClaimJoined
import GoSem.ClaimMapViews
import Derived.JoinedTies
import Derived.KernelRfl
namespace Go.Proofs.Ytgdkjmmlgnmidaa
/- THE CELL 'sum', in the pinned program and in every row, IS THE sha256 OF THE DUMP (.gsa) THAT YtgdkjmmlgnmidaaProg.lean LOADS. Nothing in Lean hashes anything: it is a label: what it is worth is what the hold of that sum in a sandbox is worth. -/
noncomputable def Try.pinned : Pinned := { name := "ytgdkjmmlgnmidaa", sum := "4389e5e5268285af2c037e5c1034e65be5cf33fc256e87692a3e0fdc2e2f477d", checked := Try.checked }
namespace Rows
def none {H : Type} : Left H := { results := [], args := [] }

/-- 'netcalculuslaw04.OrderAnswers': WHATEVER THE INPUT: true; the input reads as it did. -/
def orderAnswersSpec : ChangeSpec := { name := "orderAnswers", fn := fun _ => fun
  | [d1, d2, d3] => { results := [.lit (.bool true)], args := [d1, d2, d3] }
  | _ => none }
def orderAnswersRow : OpenClaim := { program := "ytgdkjmmlgnmidaa", sum := "4389e5e5268285af2c037e5c1034e65be5cf33fc256e87692a3e0fdc2e2f477d", func := "netcalculus/netcalculuslaw04.OrderAnswers", spec := "orderAnswers", unfollowed := true, recurses := true, apart := false }
def OrderAnswersSaid : Prop := orderAnswersRow.holds Try.pinned (OpenSpec.ofChange orderAnswersSpec)

/-- ITS FALSE NEIGHBOUR: 'it returns false'. Refute it at one input. -/
def orderAnswersWrong : ChangeSpec := { name := "orderAnswers", fn := fun _ => fun
  | [d1, d2, d3] => { results := [.lit (.bool false)], args := [d1, d2, d3] }
  | _ => none }
def OrderAnswersWrongFalsely : Prop := orderAnswersRow.holds Try.pinned (OpenSpec.ofChange orderAnswersWrong)

/-- 'netcalculuslaw04.OrderFirst': WHATEVER THE INPUT: true; the input reads as it did. -/
def orderFirstSpec : ChangeSpec := { name := "orderFirst", fn := fun _ => fun
  | [d1, d2] => { results := [.lit (.bool true)], args := [d1, d2] }
  | _ => none }
def orderFirstRow : OpenClaim := { program := "ytgdkjmmlgnmidaa", sum := "4389e5e5268285af2c037e5c1034e65be5cf33fc256e87692a3e0fdc2e2f477d", func := "netcalculus/netcalculuslaw04.OrderFirst", spec := "orderFirst", unfollowed := true, recurses := true, apart := false }
def OrderFirstSaid : Prop := orderFirstRow.holds Try.pinned (OpenSpec.ofChange orderFirstSpec)

/-- ITS FALSE NEIGHBOUR: 'it returns false'. Refute it at one input. -/
def orderFirstWrong : ChangeSpec := { name := "orderFirst", fn := fun _ => fun
  | [d1, d2] => { results := [.lit (.bool false)], args := [d1, d2] }
  | _ => none }
def OrderFirstWrongFalsely : Prop := orderFirstRow.holds Try.pinned (OpenSpec.ofChange orderFirstWrong)

/-- 'netcalculuslaw04.OrderLast': WHATEVER THE INPUT: true; the input reads as it did. -/
def orderLastSpec : ChangeSpec := { name := "orderLast", fn := fun _ => fun
  | [d] => { results := [.lit (.bool true)], args := [d] }
  | _ => none }
def orderLastRow : OpenClaim := { program := "ytgdkjmmlgnmidaa", sum := "4389e5e5268285af2c037e5c1034e65be5cf33fc256e87692a3e0fdc2e2f477d", func := "netcalculus/netcalculuslaw04.OrderLast", spec := "orderLast", unfollowed := true, recurses := true, apart := false }
def OrderLastSaid : Prop := orderLastRow.holds Try.pinned (OpenSpec.ofChange orderLastSpec)

/-- ITS FALSE NEIGHBOUR: 'it returns false'. Refute it at one input. -/
def orderLastWrong : ChangeSpec := { name := "orderLast", fn := fun _ => fun
  | [d] => { results := [.lit (.bool false)], args := [d] }
  | _ => none }
def OrderLastWrongFalsely : Prop := orderLastRow.holds Try.pinned (OpenSpec.ofChange orderLastWrong)

/-- 'netcalculuslaw04.OrderIsOrder': WHATEVER THE INPUT: true; the input reads as it did. -/
def orderIsOrderSpec : ChangeSpec := { name := "orderIsOrder", fn := fun _ => fun
  | [d] => { results := [.lit (.bool true)], args := [d] }
  | _ => none }
def orderIsOrderRow : OpenClaim := { program := "ytgdkjmmlgnmidaa", sum := "4389e5e5268285af2c037e5c1034e65be5cf33fc256e87692a3e0fdc2e2f477d", func := "netcalculus/netcalculuslaw04.OrderIsOrder", spec := "orderIsOrder", unfollowed := true, recurses := true, apart := false }
def OrderIsOrderSaid : Prop := orderIsOrderRow.holds Try.pinned (OpenSpec.ofChange orderIsOrderSpec)

/-- ITS FALSE NEIGHBOUR: 'it returns false'. Refute it at one input. -/
def orderIsOrderWrong : ChangeSpec := { name := "orderIsOrder", fn := fun _ => fun
  | [d] => { results := [.lit (.bool false)], args := [d] }
  | _ => none }
def OrderIsOrderWrongFalsely : Prop := orderIsOrderRow.holds Try.pinned (OpenSpec.ofChange orderIsOrderWrong)

/-- 'netcalculuslaw04.OrderSlopes': WHATEVER THE INPUT: true; the input reads as it did. -/
def orderSlopesSpec : ChangeSpec := { name := "orderSlopes", fn := fun _ => fun
  | [d] => { results := [.lit (.bool true)], args := [d] }
  | _ => none }
def orderSlopesRow : OpenClaim := { program := "ytgdkjmmlgnmidaa", sum := "4389e5e5268285af2c037e5c1034e65be5cf33fc256e87692a3e0fdc2e2f477d", func := "netcalculus/netcalculuslaw04.OrderSlopes", spec := "orderSlopes", unfollowed := true, recurses := true, apart := false }
def OrderSlopesSaid : Prop := orderSlopesRow.holds Try.pinned (OpenSpec.ofChange orderSlopesSpec)

/-- ITS FALSE NEIGHBOUR: 'it returns false'. Refute it at one input. -/
def orderSlopesWrong : ChangeSpec := { name := "orderSlopes", fn := fun _ => fun
  | [d] => { results := [.lit (.bool false)], args := [d] }
  | _ => none }
def OrderSlopesWrongFalsely : Prop := orderSlopesRow.holds Try.pinned (OpenSpec.ofChange orderSlopesWrong)

/-- 'netcalculuslaw04.OrderDual': WHATEVER THE INPUT: true; the input reads as it did. -/
def orderDualSpec : ChangeSpec := { name := "orderDual", fn := fun _ => fun
  | [d] => { results := [.lit (.bool true)], args := [d] }
  | _ => none }
def orderDualRow : OpenClaim := { program := "ytgdkjmmlgnmidaa", sum := "4389e5e5268285af2c037e5c1034e65be5cf33fc256e87692a3e0fdc2e2f477d", func := "netcalculus/netcalculuslaw04.OrderDual", spec := "orderDual", unfollowed := true, recurses := true, apart := false }
def OrderDualSaid : Prop := orderDualRow.holds Try.pinned (OpenSpec.ofChange orderDualSpec)

/-- ITS FALSE NEIGHBOUR: 'it returns false'. Refute it at one input. -/
def orderDualWrong : ChangeSpec := { name := "orderDual", fn := fun _ => fun
  | [d] => { results := [.lit (.bool false)], args := [d] }
  | _ => none }
def OrderDualWrongFalsely : Prop := orderDualRow.holds Try.pinned (OpenSpec.ofChange orderDualWrong)

/- THE SECOND FORM. 'bulk': how many values and letters a reading holds, each counted each time it is reached (what is shared counts as often as it is met; a slice's spare places count too). A statement '..UptoSaid' is the law's where the arguments, and the package variables that the reading takes, are together of bulk at most 1048576: NARROWER than '..Said'. Prove '..Said' where nothing that the law and all that it calls make is longer than what came in: it says more and counts as full. Else prove '..UptoSaid'. A law counts once. -/
mutual
def uptoBulk {H : Type} : DataW H → Nat
  | .lit (.string bytes) => bytes.length + 1
  | .lit _ => 1
  | .nil => 1
  | .ptr d => uptoBulk d + 1
  | .slice elems spare => uptoBulkAll elems + uptoBulkAll spare + 1
  | .agg parts => uptoBulkAll parts + 1
  | .iface _ d => uptoBulk d + 1
  | .map entries => uptoBulkEntries entries + 1
  | .held _ => 1
def uptoBulkAll {H : Type} : List (DataW H) → Nat
  | [] => 0
  | d :: r => uptoBulk d + uptoBulkAll r
def uptoBulkEntries {H : Type} : List (Lit × DataW H) → Nat
  | [] => 0
  | x :: r => uptoBulkEntry x + uptoBulkEntries r
def uptoBulkEntry {H : Type} : Lit × DataW H → Nat
  | (.string bytes, d) => bytes.length + uptoBulk d + 1
  | (_, d) => uptoBulk d + 1
 end
def uptoSmall : (H : Type) → List (DataW H) → Bool := fun _ ds => decide (uptoBulkAll ds ≤ 1048576)
def OpenSpec.upto (s : _root_.Go.ChangeSpec) : _root_.Go.OpenSpec := { _root_.Go.OpenSpec.ofChange s with cond := some uptoSmall }

/-- 'netcalculuslaw04.OrderAnswers', WHERE WHAT IT READS IS OF BULK AT MOST 1048576: true; the input reads as it did. -/
def orderAnswersUptoRow : OpenClaim := { program := "ytgdkjmmlgnmidaa", sum := "4389e5e5268285af2c037e5c1034e65be5cf33fc256e87692a3e0fdc2e2f477d", func := "netcalculus/netcalculuslaw04.OrderAnswers", spec := "orderAnswers", unfollowed := true, recurses := true, apart := false, narrowed := true }
def OrderAnswersUptoSaid : Prop := orderAnswersUptoRow.holds Try.pinned (OpenSpec.upto orderAnswersSpec)

/-- 'netcalculuslaw04.OrderFirst', WHERE WHAT IT READS IS OF BULK AT MOST 1048576: true; the input reads as it did. -/
def orderFirstUptoRow : OpenClaim := { program := "ytgdkjmmlgnmidaa", sum := "4389e5e5268285af2c037e5c1034e65be5cf33fc256e87692a3e0fdc2e2f477d", func := "netcalculus/netcalculuslaw04.OrderFirst", spec := "orderFirst", unfollowed := true, recurses := true, apart := false, narrowed := true }
def OrderFirstUptoSaid : Prop := orderFirstUptoRow.holds Try.pinned (OpenSpec.upto orderFirstSpec)

/-- 'netcalculuslaw04.OrderLast', WHERE WHAT IT READS IS OF BULK AT MOST 1048576: true; the input reads as it did. -/
def orderLastUptoRow : OpenClaim := { program := "ytgdkjmmlgnmidaa", sum := "4389e5e5268285af2c037e5c1034e65be5cf33fc256e87692a3e0fdc2e2f477d", func := "netcalculus/netcalculuslaw04.OrderLast", spec := "orderLast", unfollowed := true, recurses := true, apart := false, narrowed := true }
def OrderLastUptoSaid : Prop := orderLastUptoRow.holds Try.pinned (OpenSpec.upto orderLastSpec)

/-- 'netcalculuslaw04.OrderIsOrder', WHERE WHAT IT READS IS OF BULK AT MOST 1048576: true; the input reads as it did. -/
def orderIsOrderUptoRow : OpenClaim := { program := "ytgdkjmmlgnmidaa", sum := "4389e5e5268285af2c037e5c1034e65be5cf33fc256e87692a3e0fdc2e2f477d", func := "netcalculus/netcalculuslaw04.OrderIsOrder", spec := "orderIsOrder", unfollowed := true, recurses := true, apart := false, narrowed := true }
def OrderIsOrderUptoSaid : Prop := orderIsOrderUptoRow.holds Try.pinned (OpenSpec.upto orderIsOrderSpec)

/-- 'netcalculuslaw04.OrderSlopes', WHERE WHAT IT READS IS OF BULK AT MOST 1048576: true; the input reads as it did. -/
def orderSlopesUptoRow : OpenClaim := { program := "ytgdkjmmlgnmidaa", sum := "4389e5e5268285af2c037e5c1034e65be5cf33fc256e87692a3e0fdc2e2f477d", func := "netcalculus/netcalculuslaw04.OrderSlopes", spec := "orderSlopes", unfollowed := true, recurses := true, apart := false, narrowed := true }
def OrderSlopesUptoSaid : Prop := orderSlopesUptoRow.holds Try.pinned (OpenSpec.upto orderSlopesSpec)

/-- 'netcalculuslaw04.OrderDual', WHERE WHAT IT READS IS OF BULK AT MOST 1048576: true; the input reads as it did. -/
def orderDualUptoRow : OpenClaim := { program := "ytgdkjmmlgnmidaa", sum := "4389e5e5268285af2c037e5c1034e65be5cf33fc256e87692a3e0fdc2e2f477d", func := "netcalculus/netcalculuslaw04.OrderDual", spec := "orderDual", unfollowed := true, recurses := true, apart := false, narrowed := true }
def OrderDualUptoSaid : Prop := orderDualUptoRow.holds Try.pinned (OpenSpec.upto orderDualSpec)

end Rows
end Go.Proofs.Ytgdkjmmlgnmidaa
