/- Small buckets and staircases, and the examples of the chapter. By the verifier's side. -/
import Derived.Test.YtjipmkgnndldpaaIBkB
import Derived.Test.YtjipmkgnndldpaaIR5D
import Derived.Test.YtjipmkgnndldpaaILong
import Derived.Test.YtjipmkgnndldpaaIBkM
import Derived.BigQuiet
import Derived.Test.YtjipmkgnndldpaaIRefARefP
namespace Go.Proofs.Ytjipmkgnndldpaa
open Go.RowKit
set_option linter.unusedSimpArgs false
set_option linter.unusedVariables false

theorem GivesCE.ok {E : Nat → Option Int} {zs : List Int} {p inc c : Int} (hc : ECan E) (h : EIs E zs p inc c) {w w' : World} {e : Ending} (k : GivesCE zs p inc c w e w') : GivesOk E w e w' := by
  rcases h with ⟨rfl, q, rfl, hf⟩ | ⟨_, _, _, _, hn⟩
  · obtain ⟨a, n, cap, he, hb, hr, hx⟩ := k
    exact ⟨a, n, cap, zs, q, inc, he, hb, hr, hf, hx⟩
  · exact absurd hc hn
end Go.Proofs.Ytjipmkgnndldpaa
