/- What the walks of law14 share: the curve's box, the traces. By the verifier's side. -/
import Derived.Test.YthljhddnfflpjaaHTrR
import Derived.Deep.RegionHeld3
import Derived.OrdersIn
import Derived.TacticsIn
import Derived.RangeFuncCalls
import Derived.Test.YthljhddnfflpjaaHTrM
import Derived.Test.YthljhddnfflpjaaHPwA
import Derived.Test.YthljhddnfflpjaaHRTrB
import Derived.Deep.DeepAppendRoom
import Derived.Test.YthljhddnfflpjaaHCurBCurV
import Derived.Test.YthljhddnfflpjaaHRTrG
import Derived.Test.YthljhddnfflpjaaHTrXTrV
import Derived.Test.YthljhddnfflpjaaHTrTTrU
import Derived.Test.YthljhddnfflpjaaProg
import Derived.RangeFuncNested
import Derived.RangeFuncBound
import Derived.RangeFuncLeaves
import Derived.Test.YthljhddnfflpjaaHCurSLongKeepC
import Derived.Laws.OwnMore
import Derived.Deep.CutBlock
import Derived.Test.YthljhddnfflpjaaHBaseApartPickKeepS
import Derived.Test.YthljhddnfflpjaaHCurWCurveNormalW
import Derived.Test.YthljhddnfflpjaaHCurX
import Derived.Test.YthljhddnfflpjaaHRefV
import Derived.Test.YthljhddnfflpjaaHOrdMPwM
namespace Go.Proofs.Ythljhddnfflpjaa
open Go.RowKit
set_option linter.unusedSimpArgs false
set_option linter.unusedVariables false

theorem hldZ_below {w u v : World} {b : Nat} {a : Option Addr} {n cap : Nat} (h : Hld13 w b a n cap u) (hb : Below u.heap.size u v) : Hld13 w b a n cap v := by
  obtain ⟨k, hk, hs⟩ := h.src
  exact ⟨⟨k, hk, (hb.block b h.lt).trans hs⟩, h.ap.trans (below_apart hb)⟩
end Go.Proofs.Ythljhddnfflpjaa
