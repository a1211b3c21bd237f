/- The mathematics of curves that are made from their values: whether there is such a curve, and which. An infinite value is none. Nothing here speaks of the program. By the verifier's side. -/
import Derived.Test.YtknimlpdpgpliaaTCurM
namespace Go.Proofs.Ytknimlpdpgpliaa

/-! ## The least period and start of a function -/

/-! ## Values that may be infinite -/

def enc : Option Int → Int
  | none => infV
  | some x => x

/-! ## Curves from their values -/

/-! ## The greater and the lesser of two functions -/

end Go.Proofs.Ytknimlpdpgpliaa
