/- The mathematics of curves: functions that are periodic but for a constant, their least period and start. Nothing here speaks of the program. By the verifier's side. -/
import Derived.Lib.Hide
namespace Go.Proofs.Ytknimlpdpgpliaa

/-! ## A curve's values -/

abbrev infV : Int := 4611686018427387904
theorem getD_take {zs : List Int} {m i : Nat} (h : i < m) : (zs.take m).getD i 0 = zs.getD i 0 := by
  simp [List.getD, h]

theorem list_ext_getD {a b : List Int} (hl : a.length = b.length) (h : ∀ i, i < a.length → a.getD i 0 = b.getD i 0) : a = b := by
  apply List.ext_getElem hl
  intro i h1 h2
  have := h i h1
  simpa [List.getD, List.getElem?_eq_getElem h1, List.getElem?_eq_getElem h2] using this

end Go.Proofs.Ytknimlpdpgpliaa
