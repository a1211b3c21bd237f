/- Later of package trace, where it gives no error. By the verifier's side. -/
import Derived.Test.YtknimlpdpgpliaaMTrU
import Derived.Test.YtknimlpdpgpliaaMTrITrJ
namespace Go.Proofs.Ytknimlpdpgpliaa
open Go.RowKit
set_option linter.unusedSimpArgs false
set_option linter.unusedVariables false

theorem PkO.setT {u : World} {B off : Nat} {l : List Pk} (h : PkO u B off l) {i : Nat} {q : Pk} (hi : l[i]? = some q) (t : Int) :
    PkO (u.setCell ⟨B, off + i * 3 + 1, none⟩ (.int .i64 t)) B off (l.set i ⟨q.f, t, q.s⟩) := by
  obtain ⟨cs, ty, hb, hc⟩ := h
  refine ⟨_, ty, block_set _ _ hb, fun j r hj => ?_⟩
  have hlt := (List.getElem?_eq_some_iff.1 hi).1
  by_cases e : j = i
  · subst e
    rw [List.getElem?_set_self hlt] at hj
    cases hj
    obtain ⟨h1, h2, h3⟩ := hc j _ hi
    have k2 := (Array.getElem?_eq_some_iff.1 h2).1
    refine ⟨?_, ?_, ?_⟩
    · rw [Array.getElem?_setIfInBounds_ne (by omega)]; exact h1
    · rw [Array.getElem?_setIfInBounds_self_of_lt k2]
    · rw [Array.getElem?_setIfInBounds_ne (by omega)]; exact h3
  · rw [List.getElem?_set_ne (fun h => e h.symm)] at hj
    obtain ⟨h1, h2, h3⟩ := hc j r hj
    refine ⟨?_, ?_, ?_⟩ <;> rw [Array.getElem?_setIfInBounds_ne (by omega)] <;> assumption
/-- The first k packets later. -/
def lateK (d : Int) (l : List Pk) (k : Nat) : List Pk := (l.take k).map (lateP d) ++ l.drop k
theorem lateK_at {d : Int} {l : List Pk} {k : Nat} {q : Pk} (h : l[k]? = some q) : (lateK d l k)[k]? = some q := by
  have hk := (List.getElem?_eq_some_iff.1 h).1
  unfold lateK
  rw [List.getElem?_append_right (by rw [List.length_map, List.length_take]; omega), List.length_map, List.length_take, Nat.min_eq_left (by omega), Nat.sub_self, List.getElem?_drop, Nat.add_zero, h]
theorem lateK_step {d : Int} {l : List Pk} {k : Nat} {q : Pk} (h : l[k]? = some q) : (lateK d l k).set k ⟨q.f, q.t + d, q.s⟩ = lateK d l (k + 1) := by
  have hk := (List.getElem?_eq_some_iff.1 h).1
  unfold lateK
  rw [List.set_append_right _ _ (by rw [List.length_map, List.length_take]; omega), List.length_map, List.length_take, Nat.min_eq_left (by omega), Nat.sub_self, drop_at h, List.take_add_one, h]
  simp [lateP]
theorem lateK_all (d : Int) (l : List Pk) : lateK d l l.length = l.map (lateP d) := by unfold lateK; rw [List.take_length, List.drop_length, List.append_nil]

end Go.Proofs.Ytknimlpdpgpliaa
