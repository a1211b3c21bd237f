/- What the walks of law14 share: the curve's box, the traces. By the verifier's side. -/
import Derived.Test.YtknimlpdpgpliaaFCfU
import Derived.Test.YtknimlpdpgpliaaFCfS
import Derived.Test.YtknimlpdpgpliaaFCfM
import Derived.Test.YtknimlpdpgpliaaProg
import Derived.RangeFuncNested
import Derived.RangeFuncBound
import Derived.RangeFuncCalls
import Derived.RangeFuncLeaves
import Derived.Test.YtknimlpdpgpliaaFKeepC
import Derived.Laws.OwnMore
import Derived.Deep.CutBlock
import Derived.Test.YtknimlpdpgpliaaFBaseApartPickKeepS
import Derived.Test.YtknimlpdpgpliaaFCurWCurveNormalW
import Derived.Test.YtknimlpdpgpliaaFCurX
import Derived.Test.YtknimlpdpgpliaaFRefVRefARefP
import Derived.Test.YtknimlpdpgpliaaFOrdMPwM
namespace Go.Proofs.Ytknimlpdpgpliaa
open Go.RowKit
set_option linter.unusedSimpArgs false
set_option linter.unusedVariables false

theorem hldZ_below {w u v : World} {b : Nat} {a : Option Addr} {n cap : Nat} (h : Hld13 w b a n cap u) (hb : Below u.heap.size u v) : Hld13 w b a n cap v := by
  obtain ⟨k, hk, hs⟩ := h.src
  exact ⟨⟨k, hk, (hb.block b h.lt).trans hs⟩, h.ap.trans (below_apart hb)⟩
end Go.Proofs.Ytknimlpdpgpliaa
