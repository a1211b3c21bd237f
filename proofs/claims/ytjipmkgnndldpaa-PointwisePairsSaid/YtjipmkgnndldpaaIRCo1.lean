/- Of the document's convolution: plus, start, finite, grows, slope, repeats. By the verifier's side. -/
import Derived.Test.YtjipmkgnndldpaaIR5D
import Derived.Test.YtjipmkgnndldpaaIPwMPwOPwXR56M
import Derived.BigRegion
namespace Go.Proofs.Ytjipmkgnndldpaa
open Go.RowKit
set_option linter.unusedSimpArgs false
set_option linter.unusedVariables false

/-- Two curves in the call's first two boxes. -/
structure C2 (w : World) (a1 : Option Addr) (n1 cap1 : Nat) (z1 : List Int) (p1 : Nat) (i1 : Int) (a2 : Option Addr) (n2 cap2 : Nat) (z2 : List Int) (p2 : Nat) (i2 : Int) (u : World) : Prop where
  f : Bx u w.heap.size a1 n1 cap1 p1 i1 z1
  g : Bx u (w.heap.size + 1) a2 n2 cap2 p2 i2 z2
  below : Below w.heap.size w u
theorem C2.call {w u v : World} {a1 : Option Addr} {n1 cap1 : Nat} {z1 : List Int} {p1 : Nat} {i1 : Int} {a2 : Option Addr} {n2 cap2 : Nat} {z2 : List Int} {p2 : Nat} {i2 : Int} (k : C2 w a1 n1 cap1 z1 p1 i1 a2 n2 cap2 z2 p2 i2 u) (hb : Below u.heap.size u v) : C2 w a1 n1 cap1 z1 p1 i1 a2 n2 cap2 z2 p2 i2 v := ⟨k.f.under hb, k.g.under hb, k.below.trans (hb.mono k.below.size)⟩
end Go.Proofs.Ytjipmkgnndldpaa
