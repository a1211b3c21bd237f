/- What is left of a list when packets are removed, the last one first. Nothing here speaks of the program. By the verifier's side. -/
import Derived.Test.YtknimlpdpgpliaaTTrMTrN
namespace Go.Proofs.Ytknimlpdpgpliaa
set_option linter.unusedSimpArgs false
set_option linter.unusedVariables false
/-- Without the packets at these places, of which the last one goes first. -/
def dl (l : List Pk) : List Nat → List Pk
  | [] => l
  | i :: r => (dl l r).eraseIdx i
end Go.Proofs.Ytknimlpdpgpliaa
