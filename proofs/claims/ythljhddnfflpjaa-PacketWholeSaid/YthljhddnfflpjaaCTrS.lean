/- Cumulative of package trace, of whatever arguments; the chapter's example. By the verifier's side. -/
import Derived.Test.YthljhddnfflpjaaCTrR
import Derived.Test.YthljhddnfflpjaaCTrD
namespace Go.Proofs.Ythljhddnfflpjaa
open Go.RowKit Go.Shelf
set_option linter.unusedSimpArgs false
set_option linter.unusedVariables false

/-- The sums. -/
def sumsL (fl : Int) (N : Nat) (l : List Pk) : List Int := (List.range N).map (fun (k : Nat) => sumG (bytT (k : Int)) (sel fl l))
theorem sumsL_len (fl : Int) (N : Nat) (l : List Pk) : (sumsL fl N l).length = N := by unfold sumsL; simp
end Go.Proofs.Ythljhddnfflpjaa
