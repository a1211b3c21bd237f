/- Contract of keep.Longer. By the verifier's side. -/
import Derived.Test.YtjipmkgnndldpaaECurFCurG
import Derived.Test.YtjipmkgnndldpaaECurMCurNOrdM
import Derived.Test.YtjipmkgnndldpaaEAppK
import Derived.Test.YtjipmkgnndldpaaEBaseApartPickKeepS
import Derived.Deep.RegionHeld3
import Derived.Deep.AppendLies
import Derived.StillTailTactics
import Derived.RegionTactic
import Derived.Deep.DeepCutAuto
namespace Go.Proofs.Ytjipmkgnndldpaa
open Go.RowKit
set_option linter.unusedSimpArgs false

theorem Cur3.grownN {w w' : World} {b : Nat} {x0 x1 x2 : Value} (h : Cur3 w b x0 x1 x2) {row : Option Nat} (hg : w.grownBy w' row) (hr : ¬ row = some b) : Cur3 w' b x0 x1 x2 := by
  have hb : w'.heap[b]? = w.heap[b]? := hg.block b h.lt (fun e => hr e.symm)
  exact ⟨(World.cell?_of_block (w := w) (a := ⟨b, 0, none⟩) hb).trans h.c0, (World.cell?_of_block (w := w) (a := ⟨b, 1, none⟩) hb).trans h.c1, (World.cell?_of_block (w := w) (a := ⟨b, 2, none⟩) hb).trans h.c2,
    (World.frozen?_of_block (w := w) (a := ⟨b, 0, none⟩) hb).trans h.f0, (World.frozen?_of_block (w := w) (a := ⟨b, 1, none⟩) hb).trans h.f1, (World.frozen?_of_block (w := w) (a := ⟨b, 2, none⟩) hb).trans h.f2⟩
theorem RowZ.drew {w : World} {a : Option Addr} {n cap : Nat} {zs : List Int} (h : RowZ w a n cap zs) : RowZ w.drew a n cap zs := ⟨h.len, h.le, h.sm, h.cm, h.cell, h.bd⟩

end Go.Proofs.Ytjipmkgnndldpaa
