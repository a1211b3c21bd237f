/- Prove and Of of the deconvolution. By the verifier's side. -/
import Derived.Test.YtjipmkgnndldpaaIDecA
import Derived.Deep.LoopGhost
import Derived.Test.YtjipmkgnndldpaaIRefARefP
import Derived.Test.YtjipmkgnndldpaaIR5D
namespace Go.Proofs.Ytjipmkgnndldpaa
open Go.RowKit
set_option linter.unusedSimpArgs false
set_option linter.unusedVariables false

theorem RowF.rowZ {w : World} {lb N M : Nat} {F : Nat → Int} (h : RowF w lb N F) (hM : M ≤ N) (hN : N ≤ 100000) (hb : ∀ i, i < M → In64 (F i)) : RowZ w (some ⟨lb, 0, none⟩) M N (firsts F M) :=
  ⟨firsts_length _ _, hM, by omega, by omega, fun i hi => ⟨_, rfl, by
    have := (h.cell i (by omega)).1
    rw [firsts_getD _ _ _ hi, show ((⟨lb, 0, none⟩ : Addr).add i) = ⟨lb, i, none⟩ by unfold Addr.add; split <;> simp_all]
    exact this⟩, fun i hi => by rw [firsts_getD _ _ _ hi]; exact hb i hi⟩

section
variable {w u v : World} {P : PV} {y1 y2 : List Int} {pb rb la N : Nat} {F : Nat → Int} {a5 : Option Addr} {n5 cap5 p5 : Nat} {inc5 : Int} {zs5 : List Int}
end

end Go.Proofs.Ytjipmkgnndldpaa
