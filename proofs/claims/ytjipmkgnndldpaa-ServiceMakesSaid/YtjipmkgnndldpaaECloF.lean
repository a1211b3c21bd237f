/- Of and Subadditive of the closure. By the verifier's side. -/
import Derived.Test.YtjipmkgnndldpaaERowF
import Derived.Test.YtjipmkgnndldpaaEKeepT
import Derived.BigRegion
import Derived.Test.YtjipmkgnndldpaaEDecM
import Derived.Deep.LoopGhost
import Derived.BigQuiet
import Derived.Test.YtjipmkgnndldpaaEMathNumCurTCurveGrowsW
import Derived.Test.YtjipmkgnndldpaaEPwE
import Derived.Test.YtjipmkgnndldpaaEOrdAS
namespace Go.Proofs.Ytjipmkgnndldpaa
open Go.RowKit
set_option linter.unusedSimpArgs false
set_option linter.unusedVariables false

/-- The curve's box and the result's. -/
structure OF (w : World) (a : Option Addr) (n cap : Nat) (zs : List Int) (p : Nat) (inc : Int) (u : World) : Prop where
  fb : Cur3 u w.heap.size (.slice a n cap) (.int .i64 p) (.int .i64 inc)
  res : Cur3 u (w.heap.size + 1) (.slice none 0 0) (.int .i64 0) (.int .i64 0)
  row : RowZ u a n cap zs
  below : Below w.heap.size w u
  sz : w.heap.size + 1 < u.heap.size
theorem OF.call {w u v : World} {a : Option Addr} {n cap : Nat} {zs : List Int} {p : Nat} {inc : Int} (h : OF w a n cap zs p inc u) (hb : Below u.heap.size u v) : OF w a n cap zs p inc v :=
  ⟨h.fb.below hb, h.res.below hb, h.row.under hb, h.below.trans (hb.mono h.below.size), Nat.lt_of_lt_of_le h.sz hb.size⟩

end Go.Proofs.Ytjipmkgnndldpaa
