/- Contracts of package fraction: magnitude, divisor, New. By the verifier's side. -/
import Derived.Test.YtknimlpdpgpliaaFBaseApartPickKeepS
import Derived.WalkKit
import Derived.LoopTactic
import Derived.BigRegion
import Derived.Laws.ResultCell
namespace Go.Proofs.Ytknimlpdpgpliaa
open Go.RowKit

theorem gcd_step (x y : Nat) : y.gcd (x % y) = x.gcd y := by rw [Nat.gcd_comm, ← Nat.gcd_rec, Nat.gcd_comm]

end Go.Proofs.Ytknimlpdpgpliaa
