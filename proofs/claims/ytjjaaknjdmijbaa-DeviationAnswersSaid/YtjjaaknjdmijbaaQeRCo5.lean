/- The document's convolution. By the verifier's side. -/
import Derived.Test.YtjjaaknjdmijbaaQeRCo4
import Derived.Test.YtjjaaknjdmijbaaQePwEToRowF
namespace Go.Proofs.Ytjjaaknjdmijbaa
open Go.RowKit
set_option linter.unusedSimpArgs false
set_option linter.unusedVariables false

/-- What stands in Of: the normal forms, and the result's box. -/
structure OG (w : World) (A : Nat) (b1 : Option Addr) (m1 c1 : Nat) (y1 : List Int) (q1 : Nat) (j1 : Int) (b2 : Option Addr) (m2 c2 : Nat) (y2 : List Int) (q2 : Nat) (j2 : Int) (u : World) : Prop where
  xa : Bx u A b1 m1 c1 q1 j1 y1
  xb : Bx u (A + 1) b2 m2 c2 q2 j2 y2
  res : Cur3 u (w.heap.size + 2) (.slice none 0 0) (.int .i64 0) (.int .i64 0)
  below : Below w.heap.size w u
section
variable {w u v : World} {A : Nat} {b1 : Option Addr} {m1 c1 : Nat} {y1 : List Int} {q1 : Nat} {j1 : Int} {b2 : Option Addr} {m2 c2 : Nat} {y2 : List Int} {q2 : Nat} {j2 : Int}
theorem OG.call (h : OG w A b1 m1 c1 y1 q1 j1 b2 m2 c2 y2 q2 j2 u) (hb : Below u.heap.size u v) : OG w A b1 m1 c1 y1 q1 j1 b2 m2 c2 y2 q2 j2 v := ⟨h.xa.under hb, h.xb.under hb, h.res.below hb, h.below.trans (hb.mono h.below.size)⟩
end

section
variable (a1 : Option Addr) (n1 cap1 : Nat) (z1 : List Int) (p1 : Nat) (i1 : Int) (g1 : Good z1 p1 i1) (a2 : Option Addr) (n2 cap2 : Nat) (z2 : List Int) (p2 : Nat) (i2 : Int) (g2 : Good z2 p2 i2) (h1 : Day (eC z1 p1 i1)) (h2 : Day (eC z2 p2 i2))
    (w : World) (r1 : RowZ w a1 n1 cap1 z1) (r2 : RowZ w a2 n2 cap2 z2)
include g1 g2 h1 h2 r1 r2
end

end Go.Proofs.Ytjjaaknjdmijbaa
