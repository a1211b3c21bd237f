/- Contract of the reader's Curve. By the verifier's side. -/
import Derived.Test.YthljhddnfflpjaaCLong
import Derived.Test.YthljhddnfflpjaaCCurAGrow
import Derived.Test.YthljhddnfflpjaaCBaseApartPickKeepS
namespace Go.Proofs.Ythljhddnfflpjaa
open Go.RowKit
set_option linter.unusedSimpArgs false

theorem RowZ.else {w w' : World} {g k cap b : Nat} {zs : List Int} (h : RowZ w (some ⟨g, 0, none⟩) k cap zs) (he : Else b w w') (hg : ¬ g = b) : RowZ w' (some ⟨g, 0, none⟩) k cap zs :=
  ⟨h.len, h.le, h.sm, h.cm, fun i hi => by
    obtain ⟨x, h1, h2⟩ := h.cell i hi
    refine ⟨x, h1, (he.cell ?_).trans h2⟩
    rw [add_block]; cases h1; exact hg, h.bd⟩
end Go.Proofs.Ythljhddnfflpjaa
