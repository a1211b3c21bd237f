/- An append that leaves the elder list as it was; admit of package conform. By the verifier's side. -/
import Derived.Test.YtkienpbmoilheaaDTrR
import Derived.Test.YtkienpbmoilheaaDRegI
import Derived.OrdersIn
import Derived.TacticsIn
import Derived.RangeFuncCalls
import Derived.Test.YtkienpbmoilheaaDTrMTrN
import Derived.Test.YtkienpbmoilheaaDCurMCurN
import Derived.BigQuiet
import Derived.Deep.QuietTactic
import Derived.Test.YtkienpbmoilheaaDCurFCurG
import Derived.Test.YtkienpbmoilheaaDBaseApartPickKeepS
import Derived.WalkKit
import Derived.LoopTactic
import Derived.BigRegion
import Derived.Laws.ResultCell
import Derived.Test.YtkienpbmoilheaaDOrdMPwM
import Derived.Deep.RegionWith
import Derived.Shelf.Abstract
import Derived.Test.YtkienpbmoilheaaDRTrB
import Derived.Deep.DeepAppendRoom
namespace Go.Proofs.Ytkienpbmoilheaa
open Go.RowKit
set_option linter.unusedSimpArgs false
set_option linter.unusedVariables false

theorem ownsP_below {w w' : World} {base : Nat} {v : Value} {k : Nat} {xs : List Value} {e : TypeId} {s : Nat} (h : w.ownsRow base e s v k xs) (ha : Below w.heap.size w w') : w'.ownsRow base e s v k xs := by
  obtain ⟨hl, hr⟩ := h
  refine ⟨hl, ?_⟩
  rcases hr with h0 | ⟨g, cap, cur, hv, hbase, hg, h1, h2, h3, h4⟩
  · exact .inl h0
  · have hlt : g < w.heap.size := (Array.getElem?_eq_some_iff.1 hg).1
    exact .inr ⟨g, cap, cur, hv, hbase, (ha.block g hlt).trans hg, h1, h2, h3, h4⟩
theorem OwnL.call {w wx w' : World} {v : Value} {l : List Pk} (h : OwnL w v l wx) (hb : Below wx.heap.size wx w') : OwnL w v l w' := ⟨ownsP_below h.1 hb, h.2.trans (hb.mono h.2.size)⟩
theorem OwnL.row {w wx : World} {v : Value} {l : List Pk} (h : OwnL w v l wx) (hn : l.length ≤ 1000000) (hb : ∀ q ∈ l, Pk64 q) : ∃ a cap, v = .slice a l.length cap ∧ PkR wx a l.length cap l := by
  obtain ⟨hl, a, c, hv, h1, h2, h3, h4⟩ := pkO_of_owns h.1
  refine ⟨a, c, hv, hl, h1, hn, h2, ?_, hb⟩
  rcases h4 with ⟨_, h0⟩ | ⟨g', ha, _, ho⟩
  · exact .inl ⟨h0, fun _ _ => trivial⟩
  · exact .inr ⟨g', 0, ha, ho.cells⟩
end Go.Proofs.Ytkienpbmoilheaa
