/- Merge of package trace: the first error of two, and two lists joined. By the verifier's side. -/
import Derived.Test.YtknimlpdpgpliaaFTrITrJ
import Derived.Test.YtknimlpdpgpliaaFTrU
import Derived.Lib.AppendZeros
import Derived.Laws.OwnMore
namespace Go.Proofs.Ytknimlpdpgpliaa
open Go.RowKit
set_option linter.unusedSimpArgs false
set_option linter.unusedVariables false

theorem grownBy_below {base : Nat} {u w : World} {row : Option Nat} (hg : u.grownBy w row) (hr : ∀ j, row = some j → base ≤ j) (hb : base ≤ u.heap.size) : Below base u w :=
  (Below.refl base u).grown hg hb hr

theorem pkR_nil (w : World) : PkR w none 0 0 [] := ⟨rfl, Nat.le_refl _, by omega, by omega, .inl ⟨rfl, fun _ _ => trivial⟩, fun _ h => by cases h⟩
end Go.Proofs.Ytknimlpdpgpliaa
