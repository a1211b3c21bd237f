/- The examples of the chapter (awake). By the verifier's side. -/
import Derived.Test.YtknimlpdpgpliaaMCurS
import Derived.Test.YtknimlpdpgpliaaMCurFCurG
import Derived.Test.YtknimlpdpgpliaaMBaseApartPickKeepS
import Derived.WalkKit
import Derived.LoopTactic
import Derived.BigRegion
import Derived.Laws.ResultCell
import Derived.Test.YtknimlpdpgpliaaMKeepC
namespace Go.Proofs.Ytknimlpdpgpliaa
open Go.RowKit
set_option linter.unusedSimpArgs false

theorem rowZ_lit (w : World) (xs : List Int) (t : TypeId) (hx : ∀ z ∈ xs, In64 z) (hl : xs.length ≤ 1000) : RowZ (w.alloc (.cells (xs.map (Value.int .i64)).toArray t)) (some ⟨w.heap.size, 0, none⟩) xs.length xs.length xs := by
  refine ⟨rfl, Nat.le_refl _, by omega, by omega, fun i hi => ⟨_, rfl, ?_⟩, fun i hi => ?_⟩
  · have ea : ((⟨w.heap.size, 0, none⟩ : Addr).add i) = ⟨w.heap.size, i, none⟩ := by unfold Addr.add; split <;> simp_all
    rw [ea, World.cell?_alloc_new]
    simp [hi, List.getD]
  · have e : xs.getD i 0 = xs[i] := by simp [List.getD, List.getElem?_eq_getElem hi]
    rw [e]; exact hx _ (List.getElem_mem hi)

theorem lt5' {a b : Nat} (h : a < b) : a < b + 1 ∧ ¬ a = b ∧ ¬ b = a ∧ a < b := ⟨by omega, by omega, by omega, h⟩

end Go.Proofs.Ytknimlpdpgpliaa

namespace Go.Proofs.Ytknimlpdpgpliaa
open Go.RowKit
set_option linter.unusedSimpArgs false

theorem RowZ.apart {w w' : World} {a : Option Addr} {n cap b : Nat} {zs : List Int} (h : RowZ w a n cap zs) (ha : Apart b w w') (hx : ∀ x, a = some x → ¬ x.block = b) : RowZ w' a n cap zs :=
  ⟨h.len, h.le, h.sm, h.cm, fun i hi => by
    obtain ⟨x, h1, h2⟩ := h.cell i hi
    have hl := lt_of_cell h2
    rw [add_block] at hl
    exact ⟨x, h1, (World.cell?_of_block (w := w) (ha.block _ (by rw [add_block]; exact hl) (by rw [add_block]; exact hx x h1))).trans h2⟩, h.bd⟩

section
variable {W u v : World} {F : Nat} {x0 x1 x2 : Value} {b : Nat} {a : Option Addr} {n cap : Nat}
end

end Go.Proofs.Ytknimlpdpgpliaa
