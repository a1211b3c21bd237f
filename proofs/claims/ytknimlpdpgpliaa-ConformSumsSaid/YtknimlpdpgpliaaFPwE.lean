/- Contracts of package pointwise: Scale, Later, Ahead, Lower, Raise. By the verifier's side. -/
import Derived.Test.YtknimlpdpgpliaaFPwCPwD
import Derived.Test.YtknimlpdpgpliaaFBaseApartPickKeepS
import Derived.Laws.EntriesVeiled
namespace Go.Proofs.Ytknimlpdpgpliaa
open Go.RowKit
set_option linter.unusedSimpArgs false

/-- The curve in normal form with the values E is handed back, or the error that there is none. -/
def GivesE (E : Nat → Option Int) (w : World) (e : Ending) (w' : World) : Prop :=
  Below w.heap.size w w' ∧ ((∃ (a : Option Addr) (n cap : Nat) (zs : List Int) (p : Nat) (inc : Int), e = .returned (.tuple #[curV a n cap p inc, .int .i64 0]) ∧ RowZ w' a n cap zs ∧ EForm zs p inc E ∧ ∀ x, a = some x → w.heap.size ≤ x.block) ∨
    (e = .returned (.tuple #[curV none 0 0 0 0, .int .i64 3]) ∧ ¬ ECan E))

end Go.Proofs.Ytknimlpdpgpliaa
