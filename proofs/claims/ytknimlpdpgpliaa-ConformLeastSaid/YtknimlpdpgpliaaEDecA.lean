/- The pair of a deconvolution: its block, a gain, a list of values, whether there is a bound, the extent. By the verifier's side. -/
import Derived.Test.YtknimlpdpgpliaaERowFR56MConMN
import Derived.Test.YtknimlpdpgpliaaEBaseApartPickKeepS
import Derived.BigRegion
namespace Go.Proofs.Ytknimlpdpgpliaa
open Go.RowKit
set_option linter.unusedSimpArgs false
set_option linter.unusedVariables false

section
variable {w w' : World} {b : Nat} {x0 x1 x2 y0 y1 y2 l0 l1 n0 n1 : Value}
end

/-- The numbers and places that a pair holds. -/
structure PV where
  a1 : Option Addr
  n1 : Nat
  cap1 : Nat
  p1 : Nat
  i1 : Int
  a2 : Option Addr
  n2 : Nat
  cap2 : Nat
  p2 : Nat
  i2 : Int
  la : Nat
  lb : Nat
  L : Nat
  R : Nat
def PV.cells (P : PV) : Array Value := #[.slice P.a1 P.n1 P.cap1, .int .i64 P.p1, .int .i64 P.i1, .slice P.a2 P.n2 P.cap2, .int .i64 P.p2, .int .i64 P.i2, .slice (some ⟨P.la, 0, none⟩) 1040 1040, .slice (some ⟨P.lb, 0, none⟩) P.R P.R, .int .i64 P.L, .int .i64 P.R]
/-! ## A list of values -/

section
variable {w u v : World} {zs : List Int} {p : Nat} {inc : Int} {a : Option Addr} {n cap B m k : Nat}
end
-- gen_dec
end Go.Proofs.Ytknimlpdpgpliaa
