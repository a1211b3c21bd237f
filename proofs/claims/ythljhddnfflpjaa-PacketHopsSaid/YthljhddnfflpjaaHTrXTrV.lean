/- Merge of package trace: the first error of two, and two lists joined. By the verifier's side. -/
import Derived.Test.YthljhddnfflpjaaHTrI
import Derived.Test.YthljhddnfflpjaaHTrTTrU
import Derived.Lib.AppendZeros
import Derived.Laws.OwnMore
namespace Go.Proofs.Ythljhddnfflpjaa
open Go.RowKit
set_option linter.unusedSimpArgs false
set_option linter.unusedVariables false

theorem grownBy_below {base : Nat} {u w : World} {row : Option Nat} (hg : u.grownBy w row) (hr : ∀ j, row = some j → base ≤ j) (hb : base ≤ u.heap.size) : Below base u w :=
  (Below.refl base u).grown hg hb hr

theorem pkR_nil (w : World) : PkR w none 0 0 [] := ⟨rfl, Nat.le_refl _, by omega, by omega, .inl ⟨rfl, fun _ _ => trivial⟩, fun _ h => by cases h⟩
end Go.Proofs.Ythljhddnfflpjaa

namespace Go.Proofs.Ythljhddnfflpjaa
open Go.RowKit
set_option linter.unusedSimpArgs false
set_option linter.unusedVariables false

theorem PkO.setT {u : World} {B off : Nat} {l : List Pk} (h : PkO u B off l) {i : Nat} {q : Pk} (hi : l[i]? = some q) (t : Int) :
    PkO (u.setCell ⟨B, off + i * 3 + 1, none⟩ (.int .i64 t)) B off (l.set i ⟨q.f, t, q.s⟩) := by
  obtain ⟨cs, ty, hb, hc⟩ := h
  refine ⟨_, ty, block_set _ _ hb, fun j r hj => ?_⟩
  have hlt := (List.getElem?_eq_some_iff.1 hi).1
  by_cases e : j = i
  · subst e
    rw [List.getElem?_set_self hlt] at hj
    cases hj
    obtain ⟨h1, h2, h3⟩ := hc j _ hi
    have k2 := (Array.getElem?_eq_some_iff.1 h2).1
    refine ⟨?_, ?_, ?_⟩
    · rw [Array.getElem?_setIfInBounds_ne (by omega)]; exact h1
    · rw [Array.getElem?_setIfInBounds_self_of_lt k2]
    · rw [Array.getElem?_setIfInBounds_ne (by omega)]; exact h3
  · rw [List.getElem?_set_ne (fun h => e h.symm)] at hj
    obtain ⟨h1, h2, h3⟩ := hc j r hj
    refine ⟨?_, ?_, ?_⟩ <;> rw [Array.getElem?_setIfInBounds_ne (by omega)] <;> assumption
end Go.Proofs.Ythljhddnfflpjaa
