/- What the walks of stage 16 share. By the verifier's side. -/
import Derived.Test.YtkienpbmoilheaaELnKLnL
import Derived.Test.YtkienpbmoilheaaELnMLnW
import Derived.Test.YtkienpbmoilheaaECfUCfZ
import Derived.Test.YtkienpbmoilheaaERTrARTrB
namespace Go.Proofs.Ytkienpbmoilheaa
open Go.RowKit
set_option linter.unusedSimpArgs false
set_option linter.unusedVariables false

theorem ln_ok' {lp : List Pk} (hv : vcode lp = 0) (hf : ∀ i, i < lp.length → (lp.getD i default).f < 3) {C : Int} (h1 : 1 ≤ C) (h2 : C ≤ 4000) {T : Int} (h3 : 0 ≤ T) (h4 : T ≤ 2000) : lnCode C 3 T lp = 0 := by
  unfold lnCode
  rw [if_pos hv, if_neg]
  rintro (h | h | h | h | h | h | ⟨i, hi, h⟩)
  all_goals first | omega | skip
  have := hf i hi
  omega
theorem drw_fl {lp : List Pk} {N : Nat} {M : Int} (hD : DrwF N 3 M lp) : ∀ i, i < lp.length → (lp.getD i default).f < 3 := fun i hi => by
  have := hD.ok (lp.getD i default) (by rw [List.getD_eq_getElem?_getD, List.getElem?_eq_getElem hi]; exact List.getElem_mem _)
  omega
end Go.Proofs.Ytkienpbmoilheaa
