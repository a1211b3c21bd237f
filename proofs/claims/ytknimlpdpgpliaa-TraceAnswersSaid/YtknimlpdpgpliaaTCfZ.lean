/- What the walks of law14 share: the curve's box, the traces. By the verifier's side. -/
import Derived.Test.YtknimlpdpgpliaaTCfU
import Derived.Test.YtknimlpdpgpliaaTCfA
import Derived.Test.YtknimlpdpgpliaaTCurAGrow
import Derived.BigQuiet
import Derived.Deep.QuietTactic
import Derived.Test.YtknimlpdpgpliaaTRTrG
import Derived.Test.YtknimlpdpgpliaaTTrMTrN
import Derived.Test.YtknimlpdpgpliaaTTrV
import Derived.Test.YtknimlpdpgpliaaTCfN
import Derived.Test.YtknimlpdpgpliaaProg
import Derived.RangeFuncNested
import Derived.RangeFuncBound
import Derived.RangeFuncCalls
import Derived.RangeFuncLeaves
import Derived.Test.YtknimlpdpgpliaaTKeepC
import Derived.Laws.OwnMore
import Derived.Deep.CutBlock
import Derived.WalkKit
import Derived.Deep.RegionHeld3
import Derived.StillTail
import Derived.Deep.DrawnRows
import Derived.Test.YtknimlpdpgpliaaTCurveNormalW
import Derived.Test.YtknimlpdpgpliaaTCurW
import Derived.Test.YtknimlpdpgpliaaTCurE
import Derived.Test.YtknimlpdpgpliaaTBaseApartPick
import Derived.LoopTactic
import Derived.BigRegion
import Derived.Laws.ResultCell
import Derived.Test.YtknimlpdpgpliaaTCurM
namespace Go.Proofs.Ytknimlpdpgpliaa
open Go.RowKit
set_option linter.unusedSimpArgs false
set_option linter.unusedVariables false

theorem hldZ_below {w u v : World} {b : Nat} {a : Option Addr} {n cap : Nat} (h : Hld13 w b a n cap u) (hb : Below u.heap.size u v) : Hld13 w b a n cap v := by
  obtain ⟨k, hk, hs⟩ := h.src
  exact ⟨⟨k, hk, (hb.block b h.lt).trans hs⟩, h.ap.trans (below_apart hb)⟩
theorem pkR_apartZ {u v : World} {a : Option Addr} {n cap b : Nat} {l : List Pk} (h : PkR u a n cap l) (ha : Apart b u v) (hb : ∀ x, a = some x → ¬ x.block = b) : PkR v a n cap l :=
  ⟨h.len, h.le, h.sm, h.cm, h.place.imp id fun ⟨B, off, he, hc⟩ => ⟨B, off, he, hc.apart ha (hb _ he)⟩, h.bd⟩
end Go.Proofs.Ytknimlpdpgpliaa
