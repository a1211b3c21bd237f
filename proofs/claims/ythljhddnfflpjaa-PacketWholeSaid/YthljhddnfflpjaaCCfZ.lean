/- What the walks of law14 share: the curve's box, the traces. By the verifier's side. -/
import Derived.Test.YthljhddnfflpjaaCCfU
import Derived.Test.YthljhddnfflpjaaCCfA
import Derived.Test.YthljhddnfflpjaaCCurBCurV
import Derived.Test.YthljhddnfflpjaaCRTrG
import Derived.Test.YthljhddnfflpjaaCCfM
import Derived.Test.YthljhddnfflpjaaCTrV
import Derived.Test.YthljhddnfflpjaaProg
import Derived.RangeFuncNested
import Derived.RangeFuncBound
import Derived.RangeFuncCalls
import Derived.RangeFuncLeaves
import Derived.Test.YthljhddnfflpjaaCKeepC
import Derived.Laws.OwnMore
import Derived.Deep.CutBlock
import Derived.Test.YthljhddnfflpjaaCBaseApartPickKeepS
import Derived.Test.YthljhddnfflpjaaCCurveNormalW
import Derived.Test.YthljhddnfflpjaaCCurveGrowsW
import Derived.Deep.RegionHeld3
import Derived.Test.YthljhddnfflpjaaCRefV
import Derived.Test.YthljhddnfflpjaaCOrdMPwM
namespace Go.Proofs.Ythljhddnfflpjaa
open Go.RowKit
set_option linter.unusedSimpArgs false
set_option linter.unusedVariables false

theorem hldZ_below {w u v : World} {b : Nat} {a : Option Addr} {n cap : Nat} (h : Hld13 w b a n cap u) (hb : Below u.heap.size u v) : Hld13 w b a n cap v := by
  obtain ⟨k, hk, hs⟩ := h.src
  exact ⟨⟨k, hk, (hb.block b h.lt).trans hs⟩, h.ap.trans (below_apart hb)⟩
theorem pkR_apartZ {u v : World} {a : Option Addr} {n cap b : Nat} {l : List Pk} (h : PkR u a n cap l) (ha : Apart b u v) (hb : ∀ x, a = some x → ¬ x.block = b) : PkR v a n cap l :=
  ⟨h.len, h.le, h.sm, h.cm, h.place.imp id fun ⟨B, off, he, hc⟩ => ⟨B, off, he, hc.apart ha (hb _ he)⟩, h.bd⟩
end Go.Proofs.Ythljhddnfflpjaa
