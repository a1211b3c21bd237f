/- The walk of CurveNormal. By the verifier's side. -/
import Derived.Test.YtkienpbmoilheaaECurL
import Derived.Test.YtkienpbmoilheaaECurFCurG
import Derived.Test.YtkienpbmoilheaaEBaseApartPickKeepS
import Derived.WalkKit
import Derived.LoopTactic
import Derived.BigRegion
import Derived.Laws.ResultCell
import Derived.Test.YtkienpbmoilheaaECurSLongKeepC
namespace Go.Proofs.Ytkienpbmoilheaa
open Go.RowKit
set_option linter.unusedSimpArgs false

theorem RowZ.apart {w w' : World} {a : Option Addr} {n cap b : Nat} {zs : List Int} (h : RowZ w a n cap zs) (ha : Apart b w w') (hx : ∀ x, a = some x → ¬ x.block = b) : RowZ w' a n cap zs :=
  ⟨h.len, h.le, h.sm, h.cm, fun i hi => by
    obtain ⟨x, h1, h2⟩ := h.cell i hi
    have hl := lt_of_cell h2
    rw [add_block] at hl
    exact ⟨x, h1, (World.cell?_of_block (w := w) (ha.block _ (by rw [add_block]; exact hl) (by rw [add_block]; exact hx x h1))).trans h2⟩, h.bd⟩

section
variable {W u v : World} {F : Nat} {x0 x1 x2 : Value} {b : Nat} {a : Option Addr} {n cap : Nat}
end

end Go.Proofs.Ytkienpbmoilheaa
