/- The examples of the chapter (awake). By the verifier's side. -/
import Derived.Test.YtknimlpdpgpliaaTCurE
import Derived.Test.YtknimlpdpgpliaaTCurM
import Derived.Deep.RegionWith
import Derived.Shelf.Abstract
import Derived.Deep.RegionHeld3
import Derived.Deep.OwnRows
import Derived.Deep.DeepCutAuto
namespace Go.Proofs.Ytknimlpdpgpliaa
open Go.RowKit
set_option linter.unusedSimpArgs false

theorem rowZ_lit (w : World) (xs : List Int) (t : TypeId) (hx : ∀ z ∈ xs, In64 z) (hl : xs.length ≤ 1000) : RowZ (w.alloc (.cells (xs.map (Value.int .i64)).toArray t)) (some ⟨w.heap.size, 0, none⟩) xs.length xs.length xs := by
  refine ⟨rfl, Nat.le_refl _, by omega, by omega, fun i hi => ⟨_, rfl, ?_⟩, fun i hi => ?_⟩
  · have ea : ((⟨w.heap.size, 0, none⟩ : Addr).add i) = ⟨w.heap.size, i, none⟩ := by unfold Addr.add; split <;> simp_all
    rw [ea, World.cell?_alloc_new]
    simp [hi, List.getD]
  · have e : xs.getD i 0 = xs[i] := by simp [List.getD, List.getElem?_eq_getElem hi]
    rw [e]; exact hx _ (List.getElem_mem hi)

end Go.Proofs.Ytknimlpdpgpliaa
