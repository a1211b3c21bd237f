/- Least, of the program and of the document. By the verifier's side. -/
import Derived.Test.YtombgfpheiopgaaEBkL
namespace Go.Proofs.Ytombgfpheiopgaa
open Go.RowKit
set_option linter.unusedSimpArgs false
set_option linter.unusedVariables false

theorem RowB.at0 {u : World} {B : Nat} {bs : List Bkt} (h : RowB u B 0 bs) {i : Nat} {b : Bkt} (hc : bs[i]? = some b) :
    u.cell? ⟨B, i * 4, none⟩ = some (.int .i64 b.bn) ∧ u.cell? ⟨B, i * 4 + 1, none⟩ = some (.int .i64 b.bd) ∧ u.cell? ⟨B, i * 4 + 2, none⟩ = some (.int .i64 b.rn) ∧ u.cell? ⟨B, i * 4 + 3, none⟩ = some (.int .i64 b.rd) := by
  have := h i b hc
  rwa [Nat.zero_add] at this
/-! ## lowered -/

end Go.Proofs.Ytombgfpheiopgaa
