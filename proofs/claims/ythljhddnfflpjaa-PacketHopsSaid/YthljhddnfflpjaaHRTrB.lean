/- The document's Select. By the verifier's side. -/
import Derived.Test.YthljhddnfflpjaaHTrXTrV
import Derived.Test.YthljhddnfflpjaaHTrTTrU
namespace Go.Proofs.Ythljhddnfflpjaa
open Go.RowKit
set_option linter.unusedSimpArgs false
set_option linter.unusedVariables false

/-- A list of its own is handed back. -/
def GivesOwn (l : List Pk) (w : World) (e : Ending) (w' : World) : Prop :=
  ∃ a n cap, e = .returned (.slice a n cap) ∧ Below w.heap.size w w' ∧ PkR w' a n cap l ∧ ∀ x, a = some x → w.heap.size ≤ x.block
end Go.Proofs.Ythljhddnfflpjaa
