/- Rest and Above of the program, by their meaning. By the verifier's side. | The examples of chapter 6, and the difference as the statements reckon it. By the verifier's side. | What is left of curves that are periodic by 24 ticks in the end; the document's sums of them; greater curves. By the verifier's side. -/
import Derived.Test.YtjipmkgnndldpaaIRowF
import Derived.Test.YtjipmkgnndldpaaIPwFPwG
import Derived.Test.YtjipmkgnndldpaaIPwMPwOPwXR56M
import Derived.Test.YtjipmkgnndldpaaICurMCurNOrdM
import Derived.Test.YtjipmkgnndldpaaIRefV
import Derived.Test.YtjipmkgnndldpaaIMathNumCurTCurveGrowsW
import Derived.Deep.RegionHeld3
import Derived.Test.YtjipmkgnndldpaaIBentE
import Derived.RegionTactic
import Derived.StillTailTactics
import Derived.Test.YtjipmkgnndldpaaICurSCurW
import Derived.Test.YtjipmkgnndldpaaIRefARefP
import Derived.Test.YtjipmkgnndldpaaIRefO
import Derived.Test.YtjipmkgnndldpaaIPwSPwU
import Derived.Test.YtjipmkgnndldpaaIBaseApartPickKeepS
import Derived.BigRegion
import Derived.Test.YtjipmkgnndldpaaICurFCurG
import Derived.Test.YtjipmkgnndldpaaICurX
import Derived.Test.YtjipmkgnndldpaaIR5D
namespace Go.Proofs.Ytjipmkgnndldpaa
open Go.RowKit
set_option linter.unusedSimpArgs false
set_option linter.unusedVariables false

/-- While the extremes are taken. -/
structure RL (w : World) (lb m D0 L : Nat) (G : Int) (F : Nat → Int) (u : World) : Prop where
  row : RowF u lb m F
  kd : Cur3 u D0 (.slice (some ⟨lb, 0, none⟩) m m) (.int .i64 L) (.int .i64 G)
  res : Cur3 u (w.heap.size + 2) (.slice none 0 0) (.int .i64 0) (.int .i64 0)
  lb1 : w.heap.size + 2 < lb ∧ lb < D0
  below : Below w.heap.size w u
theorem RL.call {w : World} {lb m D0 L : Nat} {G : Int} {F : Nat → Int} {u v : World} (h : RL w lb m D0 L G F u) (hb : Below u.heap.size u v) : RL w lb m D0 L G F v :=
  ⟨h.row.under hb, h.kd.below hb, h.res.below hb, h.lb1, h.below.trans (hb.mono h.below.size)⟩
theorem RL.set {w : World} {lb m D0 L : Nat} {G : Int} {F F' : Nat → Int} {u : World} (h : RL w lb m D0 L G F u) {k : Nat} (hk : k < m) (v : Int) (hF : ∀ i, i < m → (if i = k then v else F i) = F' i) : RL w lb m D0 L G F' (u.setCell ⟨lb, k, none⟩ (.int .i64 v)) := by
  have hl := h.lb1
  exact ⟨(h.row.set hk v).congr hF, h.kd.other (by omega) _ _, h.res.other (by omega) _ _, h.lb1, h.below.setCell (p := ⟨lb, k, none⟩) (by show w.heap.size ≤ lb; omega) _⟩

end Go.Proofs.Ytjipmkgnndldpaa

namespace Go.Proofs.Ytjipmkgnndldpaa
open Go.RowKit
set_option linter.unusedSimpArgs false
set_option linter.unusedVariables false

end Go.Proofs.Ytjipmkgnndldpaa

namespace Go.Proofs.Ytjipmkgnndldpaa
open Go.RowKit
set_option linter.unusedSimpArgs false
set_option linter.unusedVariables false

section
variable (a1 : Option Addr) (n1 cap1 : Nat) (z1 : List Int) (p1 : Nat) (i1 : Int) (g1 : Good z1 p1 i1) (a2 : Option Addr) (n2 cap2 : Nat) (z2 : List Int) (p2 : Nat) (i2 : Int) (g2 : Good z2 p2 i2) (h1 : Day (eC z1 p1 i1)) (h2 : Day (eC z2 p2 i2))
    (w : World) (r1 : RowZ w a1 n1 cap1 z1) (r2 : RowZ w a2 n2 cap2 z2)
include g1 g2 h1 h2 r1 r2
end

section
variable {zs ys xs : List Int} {p q r : Nat} {inc jnc knc : Int}
end

end Go.Proofs.Ytjipmkgnndldpaa
