/- The walk of CurveGrows. By the verifier's side. -/
import Derived.Test.YthljhddnfflpjaaHCurWCurveNormalW
import Derived.Test.YthljhddnfflpjaaHCurTNum
import Derived.Test.YthljhddnfflpjaaHCurSLongKeepC
namespace Go.Proofs.Ythljhddnfflpjaa
open Go.RowKit
set_option linter.unusedSimpArgs false

/-- Two curves in boxes F and G, and their rows. -/
structure Two (w : World) (F : Nat) (a : Option Addr) (n cap p : Nat) (inc : Int) (zs : List Int) (G : Nat) (b : Option Addr) (m cup q : Nat) (jnc : Int) (ys : List Int) : Prop where
  bx : Cur3 w F (.slice a n cap) (.int .i64 p) (.int .i64 inc)
  rx : RowZ w a n cap zs
  by' : Cur3 w G (.slice b m cup) (.int .i64 q) (.int .i64 jnc)
  ry : RowZ w b m cup ys
section
variable {w w' : World} {F : Nat} {a : Option Addr} {n cap p : Nat} {inc : Int} {zs : List Int} {G : Nat} {b : Option Addr} {m cup q : Nat} {jnc : Int} {ys : List Int}
theorem Two.under (h : Two w F a n cap p inc zs G b m cup q jnc ys) (hb : Below w.heap.size w w') : Two w' F a n cap p inc zs G b m cup q jnc ys :=
  ⟨h.bx.below hb, h.rx.under hb, h.by'.below hb, h.ry.under hb⟩

end

end Go.Proofs.Ythljhddnfflpjaa
