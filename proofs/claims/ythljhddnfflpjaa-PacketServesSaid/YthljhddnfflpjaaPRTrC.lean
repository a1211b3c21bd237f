/- The document's Cumulative. By the verifier's side. -/
import Derived.Test.YthljhddnfflpjaaPRTrARTrB
import Derived.Test.YthljhddnfflpjaaPTrB
import Derived.Test.YthljhddnfflpjaaPCfL3TrYCfR
namespace Go.Proofs.Ythljhddnfflpjaa
open Go.RowKit
set_option linter.unusedSimpArgs false
set_option linter.unusedVariables false

theorem bytW_in {l : List Pk} (hv : vcode l = 0) (fl t : Int) : bytW t (sel fl l) = sumG (bytT t) (sel fl l) := by
  unfold bytW
  have := part_bd hv fl t
  exact IntWalk.i64_in _ ⟨by omega, by omega⟩
end Go.Proofs.Ythljhddnfflpjaa
