/- What Best answers, of a list of paces; what Chain and Wait answer: the answers that program and document share. By the verifier's side. -/
import Derived.Test.YtjipmkgnndldpaaIBkL
import Derived.Test.YtjipmkgnndldpaaIBkA
import Derived.Test.YtjipmkgnndldpaaIBkM
import Derived.Test.YtjipmkgnndldpaaIRefO
import Derived.Lib.Small
import Derived.Test.YtjipmkgnndldpaaIMathNumCurTCurveGrowsW
import Derived.Test.YtjipmkgnndldpaaIPwFPwG
import Derived.Test.YtjipmkgnndldpaaIKeepT
import Derived.BigRegion
import Derived.Laws.EntriesVeiled
import Derived.Test.YtjipmkgnndldpaaIBkB
import Derived.Test.YtjipmkgnndldpaaICurSCurW
import Derived.Test.YtjipmkgnndldpaaICurFCurG
import Derived.Test.YtjipmkgnndldpaaIBaseApartPickKeepS
namespace Go.Proofs.Ytjipmkgnndldpaa
open Go.RowKit
set_option linter.unusedSimpArgs false
set_option linter.unusedVariables false

/-- A curve, or the zero curve and the error of a limit. -/
def Rs.ok3 (r : Rs) : Prop := (r.c = 0 ∧ ∃ q : Nat, r.p = q ∧ Good r.zs q r.inc) ∨ r = ⟨[], 0, 0, 3⟩
def Rs.lim : Rs := ⟨[], 0, 0, 3⟩
theorem Rs.ok3.of {r : Rs} (h : r.ok3) (hc : ¬ r.c = 0) : r = Rs.lim := by
  rcases h with ⟨h, _⟩ | h
  · exact absurd h hc
  · exact h
theorem EIs.ok3 {E : Nat → Option Int} {zs : List Int} {p inc c : Int} (h : EIs E zs p inc c) : Rs.ok3 ⟨zs, p, inc, c⟩ := by
  rcases h with ⟨rfl, q, rfl, hf⟩ | ⟨rfl, rfl, rfl, rfl, _⟩
  · exact .inl ⟨rfl, q, rfl, hf.good⟩
  · exact .inr rfl

/-! ## Chain and Wait -/

end Go.Proofs.Ytjipmkgnndldpaa
