/- The document's deconvolution at curves that are not valid, at g(0) other than 0 and at great common periods. By the verifier's side. -/
import Derived.Test.YtjjaaknjdmijbaaQeRDe3
import Derived.Test.YtjjaaknjdmijbaaQeRBad
import Derived.Test.YtjjaaknjdmijbaaQeDecD
import Derived.Test.YtjjaaknjdmijbaaQePwEToRowF
namespace Go.Proofs.Ytjjaaknjdmijbaa
open Go.RowKit
set_option linter.unusedSimpArgs false
set_option linter.unusedVariables false

/-- Of the pair only the error is told. -/
def GivesP8E (c : Int) (w : World) (e : Ending) (w' : World) : Prop :=
  ∃ (a1 : Option Addr) (n1 c1 : Nat) (q1 j1 : Int) (a2 : Option Addr) (n2 c2 : Nat) (q2 j2 : Int) (l : Int), e = .returned (.tuple #[curV a1 n1 c1 q1 j1, curV a2 n2 c2 q2 j2, .int .i64 l, .int .i64 c]) ∧ Below w.heap.size w w'
theorem GivesP8E.post {w w3 : World} {s A B : Nat} (hs : w.heap.size = s) (hB : Below s w w3) (hA : A = s + 2) (hB2 : B = s + 3) {c l : Int} {b1 : Option Addr} {m1 c1 : Nat} {q1 : Int} {j1 : Int} {b2 : Option Addr} {m2 c2 : Nat} {q2 : Int} {j2 : Int} :
    GivesP8E c w (.returned (.tuple #[curV b1 m1 c1 q1 j1, curV b2 m2 c2 q2 j2, .int .i64 l, .int .i64 c])) (((((((w3.setCell ⟨A, 0, none⟩ (.slice b1 m1 c1)).setCell ⟨A, 1, none⟩ (.int .i64 q1)).setCell ⟨A, 2, none⟩ (.int .i64 j1)).setCell ⟨B, 0, none⟩ (.slice b2 m2 c2)).setCell ⟨B, 1, none⟩ (.int .i64 q2)).setCell ⟨B, 2, none⟩ (.int .i64 j2)).drew) := by
  subst hs hA hB2
  exact ⟨_, _, _, _, _, _, _, _, _, _, _, rfl, (below_set3 (below_set3 hB (by omega) _ _ _) (by omega) _ _ _).drew⟩

end Go.Proofs.Ytjjaaknjdmijbaa
