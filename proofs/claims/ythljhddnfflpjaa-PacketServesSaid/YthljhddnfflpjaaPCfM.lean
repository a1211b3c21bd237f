/- The mathematics of conformance: what a flow may have, windows of packets, what Police lets pass. Nothing here speaks of the program. By the verifier's side. -/
import Derived.Test.YthljhddnfflpjaaPTrM
namespace Go.Proofs.Ythljhddnfflpjaa
set_option linter.unusedSimpArgs false
set_option linter.unusedVariables false

theorem ofFlow_nn {fl : Int} (h : -1 ≤ fl) (q : Pk) : ofFlow fl q = decide (fl = -1 ∨ q.f = fl) := by
  unfold ofFlow
  rw [Bool.eq_iff_iff]
  simp only [Bool.and_eq_true, Bool.or_eq_true, decide_eq_true_eq]
  omega
/-! ## What Violation finds -/

end Go.Proofs.Ythljhddnfflpjaa
