/- Contract of the reader's Bent, at a curve that lists a value. By the verifier's side. | The walk of CurveEqual. By the verifier's side. -/
import Derived.Test.YtknimlpdpgpliaaLKeepC
import Derived.Laws.OwnMore
import Derived.Deep.CutBlock
import Derived.Test.YtknimlpdpgpliaaLBaseApartPickKeepS
import Derived.Test.YtknimlpdpgpliaaLCurveNormalW
import Derived.Test.YtknimlpdpgpliaaLCurX
import Derived.Test.YtknimlpdpgpliaaLRefV
namespace Go.Proofs.Ytknimlpdpgpliaa
open Go.RowKit
set_option linter.unusedSimpArgs false

section
variable {B : Int} {w u v : World} {b : Nat} {a : Option Addr} {n cap Gb g N cap' : Nat} {p inc : Int}
end

end Go.Proofs.Ytknimlpdpgpliaa

namespace Go.Proofs.Ytknimlpdpgpliaa
open Go.RowKit
set_option linter.unusedSimpArgs false

theorem row_lt {w : World} {a : Option Addr} {n cap : Nat} {zs : List Int} (h : RowZ w a n cap zs) (hn : 1 ≤ n) : ∀ x, a = some x → x.block < w.heap.size := fun x hx => by
  obtain ⟨y, h1, h2⟩ := h.cell 0 (by omega)
  obtain rfl : x = y := Option.some.inj (hx.symm.trans h1)
  have := lt_of_cell h2
  rwa [add_block] at this
section
variable {w u v : World} {b : Nat} {a : Option Addr} {n cap F : Nat} {a1 : Option Addr} {n1 cap1 : Nat} {p inc : Int} {zs : List Int} {G : Nat} {a2 : Option Addr} {n2 cap2 : Nat} {q jnc : Int} {ys : List Int}
end

end Go.Proofs.Ytknimlpdpgpliaa
