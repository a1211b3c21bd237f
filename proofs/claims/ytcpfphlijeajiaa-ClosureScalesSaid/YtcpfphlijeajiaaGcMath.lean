/- Plain arithmetic of fractions: no program. By the verifier's side. -/
import Derived.WalkKit
namespace Go.Proofs.Ytcpfphlijeajiaa

/-- The limit of a term. -/
def lim : Nat := 1073741824

/-- num / den in lowest terms, and the error's number. -/
def newF (num den : Int) : Int × Int × Int :=
  if den = 0 then (0, 0, 2) else
  if lim < num.natAbs / Nat.gcd num.natAbs den.natAbs ∨ lim < den.natAbs / Nat.gcd num.natAbs den.natAbs then (0, 0, 3) else
  (if decide (num < 0) = decide (den < 0) then ((num.natAbs / Nat.gcd num.natAbs den.natAbs : Nat) : Int) else -((num.natAbs / Nat.gcd num.natAbs den.natAbs : Nat) : Int), ((den.natAbs / Nat.gcd num.natAbs den.natAbs : Nat) : Int), 0)

end Go.Proofs.Ytcpfphlijeajiaa
