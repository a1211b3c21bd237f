/- Of the document's convolution: guess, Of. By the verifier's side. -/
import Derived.Test.YtjjaaknjdmijbaaQeRCo1
import Derived.Test.YtjjaaknjdmijbaaQeRefVRefA
import Derived.Test.YtjjaaknjdmijbaaQeRCo3
import Derived.Test.YtjjaaknjdmijbaaQeRRai
namespace Go.Proofs.Ytjjaaknjdmijbaa
open Go.RowKit
set_option linter.unusedSimpArgs false
set_option linter.unusedVariables false

section
variable {z1 z2 : List Int} {p1 p2 : Nat} {i1 i2 : Int}
end

/-- The three curves' boxes at the end of guess. -/
structure GQ (w : World) (O : Nat) (a1 : Option Addr) (n1 cap1 : Nat) (z1 : List Int) (p1 : Nat) (i1 : Int) (a2 : Option Addr) (n2 cap2 : Nat) (z2 : List Int) (p2 : Nat) (i2 : Int) (a9 : Option Addr) (n9 cap9 : Nat) (z9 : List Int) (p9 : Nat) (i9 : Int) (u : World) : Prop where
  f : Bx u w.heap.size a1 n1 cap1 p1 i1 z1
  g : Bx u (w.heap.size + 1) a2 n2 cap2 p2 i2 z2
  h : Bx u O a9 n9 cap9 p9 i9 z9
theorem GQ.call {w u v : World} {O : Nat} {a1 : Option Addr} {n1 cap1 : Nat} {z1 : List Int} {p1 : Nat} {i1 : Int} {a2 : Option Addr} {n2 cap2 : Nat} {z2 : List Int} {p2 : Nat} {i2 : Int} {a9 : Option Addr} {n9 cap9 : Nat} {z9 : List Int} {p9 : Nat} {i9 : Int} (k : GQ w O a1 n1 cap1 z1 p1 i1 a2 n2 cap2 z2 p2 i2 a9 n9 cap9 z9 p9 i9 u) (hb : Below u.heap.size u v) : GQ w O a1 n1 cap1 z1 p1 i1 a2 n2 cap2 z2 p2 i2 a9 n9 cap9 z9 p9 i9 v := ⟨k.f.under hb, k.g.under hb, k.h.under hb⟩

end Go.Proofs.Ytjjaaknjdmijbaa
