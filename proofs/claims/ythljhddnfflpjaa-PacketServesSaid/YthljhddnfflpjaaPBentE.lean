/- Contract of the reader's Bent, at a curve that lists a value. By the verifier's side. | The walk of CurveEqual. By the verifier's side. -/
import Derived.Test.YthljhddnfflpjaaPCurSLongKeepC
import Derived.Laws.OwnMore
import Derived.Deep.CutBlock
import Derived.Test.YthljhddnfflpjaaPBaseApartPickKeepS
import Derived.Test.YthljhddnfflpjaaPCurWCurveNormalW
import Derived.Test.YthljhddnfflpjaaPCurX
import Derived.Test.YthljhddnfflpjaaPRefV
namespace Go.Proofs.Ythljhddnfflpjaa
open Go.RowKit
set_option linter.unusedSimpArgs false

section
variable {B : Int} {w u v : World} {b : Nat} {a : Option Addr} {n cap Gb g N cap' : Nat} {p inc : Int}
theorem getD_setB {zs : List Int} {i j : Nat} {z : Int} (hj : j < zs.length) : (zs.set i z).getD j 0 = if i = j then z else zs.getD j 0 := by
  by_cases h : i = j
  · subst h; simp [List.getD, hj]
  · simp [List.getD, h, List.getElem?_set_ne h]
end

end Go.Proofs.Ythljhddnfflpjaa

namespace Go.Proofs.Ythljhddnfflpjaa
open Go.RowKit
set_option linter.unusedSimpArgs false

theorem row_lt {w : World} {a : Option Addr} {n cap : Nat} {zs : List Int} (h : RowZ w a n cap zs) (hn : 1 ≤ n) : ∀ x, a = some x → x.block < w.heap.size := fun x hx => by
  obtain ⟨y, h1, h2⟩ := h.cell 0 (by omega)
  obtain rfl : x = y := Option.some.inj (hx.symm.trans h1)
  have := lt_of_cell h2
  rwa [add_block] at this
theorem ok_pos {most : Nat} {zs : List Int} {p : Nat} {inc : Int} (h : OkCur most zs p inc) : 1 ≤ zs.length := by have := h.good.p1; have := h.good.p3; omega

section
variable {w u v : World} {b : Nat} {a : Option Addr} {n cap F : Nat} {a1 : Option Addr} {n1 cap1 : Nat} {p inc : Int} {zs : List Int} {G : Nat} {a2 : Option Addr} {n2 cap2 : Nat} {q jnc : Int} {ys : List Int}
end

end Go.Proofs.Ythljhddnfflpjaa
