/- Contracts: curve.Finite, Start, Slope. By the verifier's side. -/
import Derived.Test.YtombgfpheiopgaaACurFCurG
import Derived.Test.YtombgfpheiopgaaANum
namespace Go.Proofs.Ytombgfpheiopgaa
open Go.RowKit
set_option linter.unusedSimpArgs false

/-- Is it a valid curve whose last value is finite? -/
def finB (zs : List Int) (p inc : Int) : Bool := okC zs p inc && !decide (zs.getD (zs.length - 1) 0 = infV)

theorem finB_bad {zs : List Int} {p inc : Int} (h : okC zs p inc = false) : finB zs p inc = false := by unfold finB; rw [h]; rfl
end Go.Proofs.Ytombgfpheiopgaa
