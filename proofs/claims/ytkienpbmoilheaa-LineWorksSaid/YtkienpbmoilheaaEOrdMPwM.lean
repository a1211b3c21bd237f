/- The mathematics of two curves that are compared at every tick. Nothing here speaks of the program. By the verifier's side. -/
import Derived.Test.YtkienpbmoilheaaECurMCurN
namespace Go.Proofs.Ytkienpbmoilheaa

theorem Per.to {d : Nat → Int} {S L : Nat} {c : Int} (h : Per d S L c) (r j : Nat) : d (S + r + j * L) = d (S + r) + (j : Int) * c := h.mul j (S + r) (by omega)

/-! ## Two curves -/

section
variable {zs ys : List Int} {p q : Nat} {inc jnc : Int}

end
end Go.Proofs.Ytkienpbmoilheaa

namespace Go.Proofs.Ytkienpbmoilheaa

/-! ## The least period and start of a function -/

/-! ## Values that may be infinite -/

def enc : Option Int → Int
  | none => infV
  | some x => x

/-! ## Curves from their values -/

/-! ## The greater and the lesser of two functions -/

end Go.Proofs.Ytkienpbmoilheaa
