/- Contract of the document's Valid. By the verifier's side. -/
import Derived.Test.YtkienpbmoilheaaECurFCurG
import Derived.LoopTactic
namespace Go.Proofs.Ytkienpbmoilheaa
open Go.RowKit
set_option linter.unusedSimpArgs false

theorem box_below (w : World) (o : Obj) : Below w.heap.size w (w.alloc o) := (Below.refl _ _).alloc (Nat.le_refl _) _

end Go.Proofs.Ytkienpbmoilheaa
