/-
  DERIVED. GIVEN WITH THE SEED: THE CARDS: each row of YtjingkgnnjnfdaaDoorRows.lean that lists a variable, with what it lists TIED to the program's text (the seventh form; the later family's looks); each row that meets fmt, with fmt's text TOLD by the authors' own Lean function (tested against real Go, not proved from fmt's source: count such statements apart). THE CARD IS WHAT COUNTS. Prove the row's statement (the work); the ties are given (YtjingkgnnjnfdaaDoorTie.lean); close each card by the builder's one call (the guide's Derived/Test/ToyasCard.lean, 'card_holds'). Laid BY PROGRAM, IN A SANDBOX (cutbox-door.mjs). By AI agents, Wed Nov 11 2026. No macro, syntax, notation, axiom, sorry.
-/
import Derived.Test.YtjingkgnnjnfdaaDoorRows
import GoSem.ClaimSeven
namespace Go.Proofs.YtjingkgnnjnfdaaDoor
namespace Rows

/-- THE TIED CARD OF 'netcalculuslaw01.FractionAnswers'. -/
def fractionAnswersCard : Claim7 := { stood := { row := fractionAnswersRow, standIns := [], harness := (true, "b2826ca8464631c114bad49a2a009770e03117fbf2064996b4e2db95105ce0c4"), looks := true }, kinds := [], alts := [], laidByText := true, laidKinds := [.data, .data, .data, .sentinel, .sentinel], laidTests := true, laidLooks := .later }
def FractionAnswersCardSaid : Prop := Claim7.holds Tryd.pinned (.plain (OpenSpec.ofChange fractionAnswersSpec)) fractionAnswersCard

/-- THE SECOND FORM's CARD OF 'netcalculuslaw01.FractionAnswers'. -/
def fractionAnswersUptoCard : Claim7 := { stood := { row := fractionAnswersUptoRow, standIns := [], harness := (true, "b2826ca8464631c114bad49a2a009770e03117fbf2064996b4e2db95105ce0c4"), looks := true }, kinds := [], alts := [], laidByText := true, laidKinds := [.data, .data, .data, .sentinel, .sentinel], laidTests := true, laidLooks := .later }
def FractionAnswersUptoCardSaid : Prop := Claim7.holds Tryd.pinned (.plain (OpenSpec.upto fractionAnswersSpec)) fractionAnswersUptoCard
end Rows
end Go.Proofs.YtjingkgnnjnfdaaDoor
