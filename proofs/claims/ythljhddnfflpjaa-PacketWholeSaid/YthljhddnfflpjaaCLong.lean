/- Contract of keep.Longer. By the verifier's side. -/
import Derived.Test.YthljhddnfflpjaaCCurF
import Derived.Test.YthljhddnfflpjaaCCurMCurN
import Derived.Test.YthljhddnfflpjaaCBaseApartPickKeepS
import Derived.Deep.AppendLies
import Derived.Deep.RegionHeld3
import Derived.StillTailTactics
import Derived.RegionTactic
import Derived.Deep.DeepCutAuto
namespace Go.Proofs.Ythljhddnfflpjaa
open Go.RowKit
set_option linter.unusedSimpArgs false

theorem RowZ.drew {w : World} {a : Option Addr} {n cap : Nat} {zs : List Int} (h : RowZ w a n cap zs) : RowZ w.drew a n cap zs := ⟨h.len, h.le, h.sm, h.cm, h.cell, h.bd⟩

end Go.Proofs.Ythljhddnfflpjaa
