/- Contracts of package bucket: outside, oversized, unfit, faulty, the closures. By the verifier's side. -/
import Derived.Test.YtjipmkgnndldpaaIBkM
import Derived.Test.YtjipmkgnndldpaaIRefO
import Derived.Lib.Small
import Derived.Test.YtjipmkgnndldpaaICE
namespace Go.Proofs.Ytjipmkgnndldpaa
open Go.RowKit
set_option linter.unusedSimpArgs false
set_option linter.unusedVariables false

/-- Valid, and not negative. -/
def okB (n d : Int) : Bool := okF n d && decide (0 ≤ n)
/-! ## The closures -/

end Go.Proofs.Ytjipmkgnndldpaa
