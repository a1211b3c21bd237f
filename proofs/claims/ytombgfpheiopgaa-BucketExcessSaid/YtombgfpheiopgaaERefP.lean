/- Contract of the document's periodic, and what it has to do with the least period. By the verifier's side. | Contract of the document's Least, at a finite curve. By the verifier's side. | Contracts of the document's Least at a curve that is not finite; Least, Normal, Finite, Start, Equal. By the verifier's side. -/
import Derived.Test.YtombgfpheiopgaaERefA
import Derived.Deep.RegionHeld3
import Derived.Test.YtombgfpheiopgaaProg
import Derived.WalkKit
import Derived.StillTail
import Derived.Deep.DrawnRows
import Derived.Test.YtombgfpheiopgaaEKeepC
import Derived.Deep.DeepCutAuto
import Derived.Test.YtombgfpheiopgaaECurX
namespace Go.Proofs.Ytombgfpheiopgaa
open Go.RowKit
set_option linter.unusedSimpArgs false

section
variable {W u v : World} {F : Nat} {a : Option Addr} {n cap p : Nat} {inc : Int} {zs : List Int}
end

end Go.Proofs.Ytombgfpheiopgaa

namespace Go.Proofs.Ytombgfpheiopgaa
open Go.RowKit
set_option linter.unusedSimpArgs false

/-- What stands in Least: the curve's box and row, the result's box. -/
structure Ls (w : World) (a : Option Addr) (n cap P : Nat) (inc : Int) (zs : List Int) (wx : World) : Prop where
  bl : Below w.heap.size w wx
  bf : Cur3 wx w.heap.size (.slice a n cap) (.int .i64 P) (.int .i64 inc)
  rf : RowZ wx a n cap zs
  br : Cur3 wx (w.heap.size + 1) (.slice none 0 0) (.int .i64 0) (.int .i64 0)
theorem Ls.under {w u v : World} {a : Option Addr} {n cap P : Nat} {inc : Int} {zs : List Int} (h : Ls w a n cap P inc zs u) (hb : Below u.heap.size u v) : Ls w a n cap P inc zs v :=
  ⟨h.bl.trans (hb.mono h.bl.size), h.bf.below hb, h.rf.under hb, h.br.below hb⟩
end Go.Proofs.Ytombgfpheiopgaa

namespace Go.Proofs.Ytombgfpheiopgaa
open Go.RowKit
set_option linter.unusedSimpArgs false

end Go.Proofs.Ytombgfpheiopgaa
