/- Contracts of the document's package of fractions, as package curve needs them: abs, Valid, New. By the verifier's side. | Contracts: the document's Finite, Start, Slope, Equal; Start and Equal at curves that are not valid. By the verifier's side. -/
import Derived.Test.YtjjaaknjdmijbaaQcCurveGrowsW
import Derived.Deep.RegionHeld3
import Derived.RegionTactic
import Derived.WalkSpells
import Derived.Test.YtjjaaknjdmijbaaQcRefP
import Derived.Test.YtjjaaknjdmijbaaQcKeepS
namespace Go.Proofs.Ytjjaaknjdmijbaa
open Go.RowKit
set_option linter.unusedSimpArgs false

/-- Block p holds the fraction x over d, and may be written. -/
structure Box (w : World) (p : Nat) (x d : Int) : Prop where
  c0 : w.cell? ⟨p, 0, none⟩ = some (.int .i64 x)
  c1 : w.cell? ⟨p, 1, none⟩ = some (.int .i64 d)
  f0 : w.frozen? ⟨p, 0, none⟩ = false
  f1 : w.frozen? ⟨p, 1, none⟩ = false

theorem Box.lt {w : World} {p : Nat} {x d : Int} (h : Box w p x d) : p < w.heap.size := lt_of_cell h.c0
theorem Box.below {w w' : World} {p : Nat} {x d : Int} (h : Box w p x d) (hb : Below w.heap.size w w') : Box w' p x d :=
  ⟨(hb.cell (p := ⟨p, 0, none⟩) h.lt).trans h.c0, (hb.cell (p := ⟨p, 1, none⟩) h.lt).trans h.c1, (hb.frozen (p := ⟨p, 0, none⟩) h.lt).trans h.f0, (hb.frozen (p := ⟨p, 1, none⟩) h.lt).trans h.f1⟩
theorem Box.alloc {w : World} {p : Nat} {x d : Int} (h : Box w p x d) (o : Obj) : Box (w.alloc o) p x d := h.below ((Below.refl _ _).alloc (Nat.le_refl _) o)
theorem Box.drewN {w : World} {p : Nat} {x d : Int} (h : Box w p x d) (n : Nat) : Box (w.drewN n) p x d := ⟨h.c0, h.c1, h.f0, h.f1⟩
theorem Box.new (w : World) (x d : Int) (t : TypeId) : Box (w.alloc (.cells #[.int .i64 x, .int .i64 d] t)) w.heap.size x d :=
  ⟨by go_simp, by go_simp, by go_simp, by go_simp⟩
end Go.Proofs.Ytjjaaknjdmijbaa

namespace Go.Proofs.Ytjjaaknjdmijbaa
open Go.RowKit
set_option linter.unusedSimpArgs false

end Go.Proofs.Ytjjaaknjdmijbaa
