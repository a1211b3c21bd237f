/- What the walks of law14 share: the curve's box, the traces. By the verifier's side. -/
import Derived.Test.YtknimlpdpgpliaaECfU
import Derived.Test.YtknimlpdpgpliaaECfS
import Derived.Test.YtknimlpdpgpliaaECfM
import Derived.Test.YtknimlpdpgpliaaProg
import Derived.RangeFuncNested
import Derived.RangeFuncBound
import Derived.RangeFuncCalls
import Derived.RangeFuncLeaves
import Derived.Test.YtknimlpdpgpliaaEKeepC
import Derived.Laws.OwnMore
import Derived.Deep.CutBlock
import Derived.Test.YtknimlpdpgpliaaEBaseApartPickKeepS
import Derived.Test.YtknimlpdpgpliaaECurveNormalW
import Derived.Test.YtknimlpdpgpliaaECurS
import Derived.Test.YtknimlpdpgpliaaECurFCurG
import Derived.WalkKit
import Derived.LoopTactic
import Derived.BigRegion
import Derived.Laws.ResultCell
import Derived.Deep.RegionHeld3
import Derived.Test.YtknimlpdpgpliaaERefV
import Derived.Test.YtknimlpdpgpliaaEOrdMPwM
namespace Go.Proofs.Ytknimlpdpgpliaa
open Go.RowKit
set_option linter.unusedSimpArgs false
set_option linter.unusedVariables false

theorem hldZ_below {w u v : World} {b : Nat} {a : Option Addr} {n cap : Nat} (h : Hld13 w b a n cap u) (hb : Below u.heap.size u v) : Hld13 w b a n cap v := by
  obtain ⟨k, hk, hs⟩ := h.src
  exact ⟨⟨k, hk, (hb.block b h.lt).trans hs⟩, h.ap.trans (below_apart hb)⟩
theorem pkR_apartZ {u v : World} {a : Option Addr} {n cap b : Nat} {l : List Pk} (h : PkR u a n cap l) (ha : Apart b u v) (hb : ∀ x, a = some x → ¬ x.block = b) : PkR v a n cap l :=
  ⟨h.len, h.le, h.sm, h.cm, h.place.imp id fun ⟨B, off, he, hc⟩ => ⟨B, off, he, hc.apart ha (hb _ he)⟩, h.bd⟩
/-- What stands in memory: the curve's box, its row. -/
structure CfB (V : World) (F : Nat) (af : Option Addr) (nf capf : Nat) (zs : List Int) (p : Nat) (inc : Int) (w : World) : Prop where
  f0 : w.cell? ⟨F, 0, none⟩ = some (.slice af nf capf)
  f1 : w.cell? ⟨F, 1, none⟩ = some (.int .i64 p)
  f2 : w.cell? ⟨F, 2, none⟩ = some (.int .i64 inc)
  row : RowZ w af nf capf zs
  below : Below V.heap.size V w
theorem CfB.call {V : World} {F : Nat} {af : Option Addr} {nf capf : Nat} {zs : List Int} {p : Nat} {inc : Int} {w u : World} (h : CfB V F af nf capf zs p inc w) (hb : Below w.heap.size w u) : CfB V F af nf capf zs p inc u :=
  ⟨(hb.cell (lt_of_cell h.f0)).trans h.f0, (hb.cell (lt_of_cell h.f1)).trans h.f1, (hb.cell (lt_of_cell h.f2)).trans h.f2, h.row.under hb, h.below.trans (hb.mono h.below.size)⟩
end Go.Proofs.Ytknimlpdpgpliaa
