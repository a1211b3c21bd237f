/- Contract of keep.Longer. By the verifier's side. -/
import Derived.Test.YtknimlpdpgpliaaTCurE
import Derived.Test.YtknimlpdpgpliaaTCurM
import Derived.Test.YtknimlpdpgpliaaTBaseApartPick
import Derived.Deep.AppendLies
import Derived.Test.YtknimlpdpgpliaaProg
import Derived.WalkKit
import Derived.Deep.RegionHeld3
import Derived.StillTail
import Derived.Deep.DrawnRows
import Derived.StillTailTactics
import Derived.RegionTactic
import Derived.Deep.DeepCutAuto
namespace Go.Proofs.Ytknimlpdpgpliaa
open Go.RowKit
set_option linter.unusedSimpArgs false

theorem RowZ.drew {w : World} {a : Option Addr} {n cap : Nat} {zs : List Int} (h : RowZ w a n cap zs) : RowZ w.drew a n cap zs := ⟨h.len, h.le, h.sm, h.cm, h.cell, h.bd⟩

end Go.Proofs.Ytknimlpdpgpliaa
