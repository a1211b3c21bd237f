/- Contracts of the document's Least at a curve that is not finite; Least, Normal, Finite, Start, Equal. By the verifier's side. -/
import Derived.Test.YtgdkjmmlgnmidaaRefL
import Derived.Test.YtgdkjmmlgnmidaaCurX
namespace Go.Proofs.Ytgdkjmmlgnmidaa
open Go.RowKit
set_option linter.unusedSimpArgs false

end Go.Proofs.Ytgdkjmmlgnmidaa
