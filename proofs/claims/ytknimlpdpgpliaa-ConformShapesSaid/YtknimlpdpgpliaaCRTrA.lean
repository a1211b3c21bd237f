/- The document's Bytes. By the verifier's side. -/
import Derived.Test.YtknimlpdpgpliaaCTrX
import Derived.Test.YtknimlpdpgpliaaCTrT
namespace Go.Proofs.Ytknimlpdpgpliaa
open Go.RowKit
set_option linter.unusedSimpArgs false
set_option linter.unusedVariables false

theorem ofFlow_iff (fl : Int) (q : Pk) : ofFlow fl q = true ↔ (-1 ≤ fl ∧ (fl = -1 ∨ q.f = fl)) := by
  unfold ofFlow; simp only [Bool.and_eq_true, Bool.or_eq_true, decide_eq_true_eq]
end Go.Proofs.Ytknimlpdpgpliaa
