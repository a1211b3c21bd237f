/- Cumulative of package trace. By the verifier's side. -/
import Derived.Test.YthljhddnfflpjaaHTrPTrQ
import Derived.Laws.MakeOwn
import Derived.Deep.RegionHeld3
import Derived.OrdersIn
import Derived.TacticsIn
import Derived.RangeFuncCalls
namespace Go.Proofs.Ythljhddnfflpjaa
open Go.RowKit Go.Shelf
set_option linter.unusedSimpArgs false
set_option linter.unusedVariables false
attribute [local go_sem] Oper.semAt_some

theorem BB.drew {n b : Nat} {A B : World} (h : BB n b A B) : BB n b A B.drew := ⟨h.os, h.tape, h.output, h.size, h.block⟩
section
variable {W V : World} {M N : Nat} {F G : Nat → Int}
end
theorem vcode_ok {l : List Pk} (h : vcode l = 0) : l.length ≤ 60 ∧ (∀ q ∈ l, okP q = true) ∧ Asc l := by
  unfold vcode at h
  by_cases c : 60 < l.length
  · rw [if_pos c] at h; omega
  · rw [if_neg c, vgo_ok 2 7 (by decide) (by decide)] at h
    exact ⟨by omega, fun q hq => (h.1 q hq).1, h.2⟩
end Go.Proofs.Ythljhddnfflpjaa
