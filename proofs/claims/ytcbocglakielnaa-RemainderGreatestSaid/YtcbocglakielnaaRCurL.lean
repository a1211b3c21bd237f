/- Contracts: curve.fault, Line, Wait, for arguments within the limits. By the verifier's side. -/
import Derived.Test.YtcbocglakielnaaRCurS
import Derived.Test.YtcbocglakielnaaRCurFCurG
namespace Go.Proofs.Ytcbocglakielnaa
open Go.RowKit
set_option linter.unusedSimpArgs false

set_option maxHeartbeats 400000 in
theorem fault_ok (n m : Int) (h0 : 0 ≤ n) (h1 : n ≤ m) (w : World) : Calls Try.prog 115 #[.int .i64 n, .int .i64 m] w fun e w' => e = .returned (.int .i64 0) ∧ w = w' := by
  go_enter Try.func115, Try.ntmps115
  go_wp2
  go_ret
  exact ⟨rfl, rfl⟩

end Go.Proofs.Ytcbocglakielnaa
