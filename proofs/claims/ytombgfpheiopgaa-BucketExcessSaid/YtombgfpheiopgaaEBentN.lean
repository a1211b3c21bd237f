/- Contract of the reader's Bent, at a curve that lists no value, and at whatever curve. By the verifier's side. -/
import Derived.Test.YtombgfpheiopgaaEBentE
namespace Go.Proofs.Ytombgfpheiopgaa
open Go.RowKit
set_option linter.unusedSimpArgs false

theorem run_append_zero {P : Program} (w : World) (t ty e : TypeId) (i : TypeInfo) (ht : P.underlying t = some (.slice e)) (hi : P.info? e = some i) (x : Addr) (n cap : Nat) (hn : n ≤ cap) (A : Option Addr) (c : Nat) :
    (Builtin.append_ #[t, t] ty #[.slice (some x) n cap, .slice A 0 c]).run P w = .ok (.slice (some x) n cap) w := by
  rcases A with _ | A
  · simp [Builtin.append_, run_underlying ht, sizeOf, typeInfo, hi, Builtin.lenOf, Builtin.firstCells, hn, storeCells]
  · have hfc := run_firstCells_some (P := P) w i.size 0 A 0 c [] (by simp) (by simp)
    simp [Builtin.append_, run_underlying ht, sizeOf, typeInfo, hi, Builtin.lenOf, hn, hfc, storeCells]

end Go.Proofs.Ytombgfpheiopgaa
