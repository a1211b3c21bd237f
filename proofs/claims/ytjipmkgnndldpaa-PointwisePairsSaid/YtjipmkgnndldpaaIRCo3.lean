/- Of the document's convolution: below, at whatever third curve. By the verifier's side. -/
import Derived.Test.YtjipmkgnndldpaaIRCo1
import Derived.Test.YtjipmkgnndldpaaIRefARefP
namespace Go.Proofs.Ytjipmkgnndldpaa
open Go.RowKit
set_option linter.unusedSimpArgs false
set_option linter.unusedVariables false

/-- Three curves in the call's first boxes. -/
structure C3 (w : World) (a1 : Option Addr) (n1 cap1 : Nat) (z1 : List Int) (p1 : Nat) (i1 : Int) (a2 : Option Addr) (n2 cap2 : Nat) (z2 : List Int) (p2 : Nat) (i2 : Int) (a3 : Option Addr) (n3 cap3 : Nat) (z3 : List Int) (p3 : Nat) (i3 : Int) (u : World) : Prop where
  f : Bx u w.heap.size a1 n1 cap1 p1 i1 z1
  g : Bx u (w.heap.size + 1) a2 n2 cap2 p2 i2 z2
  h : Bx u (w.heap.size + 1 + 1) a3 n3 cap3 p3 i3 z3
  below : Below w.heap.size w u
theorem C3.call {w u v : World} {a1 : Option Addr} {n1 cap1 : Nat} {z1 : List Int} {p1 : Nat} {i1 : Int} {a2 : Option Addr} {n2 cap2 : Nat} {z2 : List Int} {p2 : Nat} {i2 : Int} {a3 : Option Addr} {n3 cap3 : Nat} {z3 : List Int} {p3 : Nat} {i3 : Int} (k : C3 w a1 n1 cap1 z1 p1 i1 a2 n2 cap2 z2 p2 i2 a3 n3 cap3 z3 p3 i3 u) (hb : Below u.heap.size u v) : C3 w a1 n1 cap1 z1 p1 i1 a2 n2 cap2 z2 p2 i2 a3 n3 cap3 z3 p3 i3 v := ⟨k.f.under hb, k.g.under hb, k.h.under hb, k.below.trans (hb.mono k.below.size)⟩
end Go.Proofs.Ytjipmkgnndldpaa
